/- Contracts: Left, Right. -/
import Derived.Test.YtdpkmhgmglljjaaLimbD
import Derived.Test.YtdpkmhgmglljjaaPlain3
namespace Go.Proofs.Ytdpkmhgmglljjaa
open Go.RowKit
set_option maxHeartbeats 1600000 in
theorem left_c (a b c d k : Int) (w : World) (ha : U64 a) (hb : U64 b) (hc : U64 c) (hd : U64 d) :
    Calls Try.prog 16 #[.agg #[.int .u64 a, .int .u64 b, .int .u64 c, .int .u64 d], .int .i64 k] w (Ret w (IsAgg4 (LeftR a b c d k))) := by
  go_enter Try.func16, Try.ntmps16
  go_wp2_with fail
  refine (shift_c k _).mono ?_
  rintro e w1 ⟨_, ⟨s, r, hs, rfl⟩, rfl, rfl⟩
  have h0 : 0 ≤ r := hs.2.2.2.1
  have h1 : r < 64 := hs.2.2.2.2
  obtain ⟨H0, H1, H2, H3, H4⟩ := left_of a b c d k s r hs ha hb hc hd
  rcases (show s = 0 ∨ s = 1 ∨ s = 2 ∨ s = 3 ∨ s = 4 by have := hs.2.1; have := hs.2.2.1; omega) with rfl | rfl | rfl | rfl | rfl
  · have H := H0 rfl
    clear H0 H1 H2 H3 H4 hs ha hb hc hd
    simp only [lw0, lw1] at H
    go_wp2
    refine wp_loop_rounds 5 ?_
    rw [rounds_succ]
    go_wp2
    rw [rounds_succ]
    go_wp2
    go_region
    go_wp2
    rw [rounds_succ]
    go_wp2
    go_region
    go_wp2
    rw [rounds_succ]
    go_wp2
    go_region
    go_wp2
    rw [rounds_succ]
    go_wp2
    exact bodyPost_ret (v := .agg #[_, _, _, _]) (by simp [results, Try.results16, go_sem]) rfl ⟨_, ⟨_, _, _, _, H, rfl⟩, rfl, (((((Below.refl _ _).alloc (Nat.le_refl _) _).alloc (by simp) _)).alloc (by simp; omega) _).drew.drew.drew⟩
  · have H := H1 rfl
    clear H0 H1 H2 H3 H4 hs ha hb hc hd
    simp only [lw0, lw1] at H
    go_wp2
    refine wp_loop_rounds 4 ?_
    rw [rounds_succ]
    go_wp2
    rw [rounds_succ]
    go_wp2
    go_region
    go_wp2
    rw [rounds_succ]
    go_wp2
    go_region
    go_wp2
    rw [rounds_succ]
    go_wp2
    exact bodyPost_ret (v := .agg #[_, _, _, _]) (by simp [results, Try.results16, go_sem]) rfl ⟨_, ⟨_, _, _, _, H, rfl⟩, rfl, (((((Below.refl _ _).alloc (Nat.le_refl _) _).alloc (by simp) _)).alloc (by simp; omega) _).drew.drew⟩
  · have H := H2 rfl
    clear H0 H1 H2 H3 H4 hs ha hb hc hd
    simp only [lw0, lw1] at H
    go_wp2
    refine wp_loop_rounds 3 ?_
    rw [rounds_succ]
    go_wp2
    rw [rounds_succ]
    go_wp2
    go_region
    go_wp2
    rw [rounds_succ]
    go_wp2
    exact bodyPost_ret (v := .agg #[_, _, _, _]) (by simp [results, Try.results16, go_sem]) rfl ⟨_, ⟨_, _, _, _, H, rfl⟩, rfl, (((((Below.refl _ _).alloc (Nat.le_refl _) _).alloc (by simp) _)).alloc (by simp; omega) _).drew⟩
  · have H := H3 rfl
    clear H0 H1 H2 H3 H4 hs ha hb hc hd
    simp only [lw0] at H
    go_wp2
    refine wp_loop_rounds 2 ?_
    rw [rounds_succ]
    go_wp2
    rw [rounds_succ]
    go_wp2
    exact bodyPost_ret (v := .agg #[_, _, _, _]) (by simp [results, Try.results16, go_sem]) rfl ⟨_, ⟨_, _, _, _, H, rfl⟩, rfl, (((((Below.refl _ _).alloc (Nat.le_refl _) _).alloc (by simp) _)).alloc (by simp; omega) _)⟩
  · have H := H4 rfl
    clear H0 H1 H2 H3 H4 hs ha hb hc hd
    go_wp2
    refine wp_loop_rounds 1 ?_
    rw [rounds_succ]
    go_wp2
    exact bodyPost_ret (v := .agg #[_, _, _, _]) (by simp [results, Try.results16, go_sem]) rfl ⟨_, ⟨_, _, _, _, H, rfl⟩, rfl, (((((Below.refl _ _).alloc (Nat.le_refl _) _).alloc (by simp) _)).alloc (by simp; omega) _)⟩
set_option maxHeartbeats 1600000 in
theorem right_c (a b c d k : Int) (w : World) (ha : U64 a) (hb : U64 b) (hc : U64 c) (hd : U64 d) :
    Calls Try.prog 17 #[.agg #[.int .u64 a, .int .u64 b, .int .u64 c, .int .u64 d], .int .i64 k] w (Ret w (IsAgg4 (RightR a b c d k))) := by
  go_enter Try.func17, Try.ntmps17
  go_wp2_with fail
  refine (shift_c k _).mono ?_
  rintro e w1 ⟨_, ⟨s, r, hs, rfl⟩, rfl, rfl⟩
  have h0 : 0 ≤ r := hs.2.2.2.1
  have h1 : r < 64 := hs.2.2.2.2
  obtain ⟨H0, H1, H2, H3, H4⟩ := right_of a b c d k s r hs ha hb hc hd
  rcases (show s = 0 ∨ s = 1 ∨ s = 2 ∨ s = 3 ∨ s = 4 by have := hs.2.1; have := hs.2.2.1; omega) with rfl | rfl | rfl | rfl | rfl
  · have H := H0 rfl
    clear H0 H1 H2 H3 H4 hs ha hb hc hd
    simp only [rw0, rw1] at H
    go_wp2
    refine wp_loop_rounds 5 ?_
    rw [rounds_succ]
    go_wp2
    go_region
    go_wp2
    rw [rounds_succ]
    go_wp2
    go_region
    go_wp2
    rw [rounds_succ]
    go_wp2
    go_region
    go_wp2
    rw [rounds_succ]
    go_wp2
    rw [rounds_succ]
    go_wp2
    exact bodyPost_ret (v := .agg #[_, _, _, _]) (by simp [results, Try.results17, go_sem]) rfl ⟨_, ⟨_, _, _, _, H, rfl⟩, rfl, (((((Below.refl _ _).alloc (Nat.le_refl _) _).alloc (by simp) _)).alloc (by simp; omega) _).drew.drew.drew⟩
  · have H := H1 rfl
    clear H0 H1 H2 H3 H4 hs ha hb hc hd
    simp only [rw0, rw1] at H
    go_wp2
    refine wp_loop_rounds 4 ?_
    rw [rounds_succ]
    go_wp2
    go_region
    go_wp2
    rw [rounds_succ]
    go_wp2
    go_region
    go_wp2
    rw [rounds_succ]
    go_wp2
    rw [rounds_succ]
    go_wp2
    exact bodyPost_ret (v := .agg #[_, _, _, _]) (by simp [results, Try.results17, go_sem]) rfl ⟨_, ⟨_, _, _, _, H, rfl⟩, rfl, (((((Below.refl _ _).alloc (Nat.le_refl _) _).alloc (by simp) _)).alloc (by simp; omega) _).drew.drew⟩
  · have H := H2 rfl
    clear H0 H1 H2 H3 H4 hs ha hb hc hd
    simp only [rw0, rw1] at H
    go_wp2
    refine wp_loop_rounds 3 ?_
    rw [rounds_succ]
    go_wp2
    go_region
    go_wp2
    rw [rounds_succ]
    go_wp2
    rw [rounds_succ]
    go_wp2
    exact bodyPost_ret (v := .agg #[_, _, _, _]) (by simp [results, Try.results17, go_sem]) rfl ⟨_, ⟨_, _, _, _, H, rfl⟩, rfl, (((((Below.refl _ _).alloc (Nat.le_refl _) _).alloc (by simp) _)).alloc (by simp; omega) _).drew⟩
  · have H := H3 rfl
    clear H0 H1 H2 H3 H4 hs ha hb hc hd
    simp only [rw0] at H
    go_wp2
    refine wp_loop_rounds 2 ?_
    rw [rounds_succ]
    go_wp2
    rw [rounds_succ]
    go_wp2
    exact bodyPost_ret (v := .agg #[_, _, _, _]) (by simp [results, Try.results17, go_sem]) rfl ⟨_, ⟨_, _, _, _, H, rfl⟩, rfl, (((((Below.refl _ _).alloc (Nat.le_refl _) _).alloc (by simp) _)).alloc (by simp; omega) _)⟩
  · have H := H4 rfl
    clear H0 H1 H2 H3 H4 hs ha hb hc hd
    go_wp2
    refine wp_loop_rounds 1 ?_
    rw [rounds_succ]
    go_wp2
    exact bodyPost_ret (v := .agg #[_, _, _, _]) (by simp [results, Try.results17, go_sem]) rfl ⟨_, ⟨_, _, _, _, H, rfl⟩, rfl, (((((Below.refl _ _).alloc (Nat.le_refl _) _).alloc (by simp) _)).alloc (by simp; omega) _)⟩
end Go.Proofs.Ytdpkmhgmglljjaa

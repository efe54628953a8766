/- Contracts: what the statements of the first layer use. -/
import Derived.Test.YtdpkmhgmglljjaaLimbI
namespace Go.Proofs.Ytdpkmhgmglljjaa
open Go.RowKit

def InRange (m : Int) (v : Value) : Prop := ∃ r : Int, (0 ≤ r ∧ r < m) ∧ v = .int .i64 r
set_option maxHeartbeats 400000 in
theorem pick_c (n m : Int) (w : World) (hm : 0 < m) (hm2 : m ≤ 1000000000000) :
    Calls Try.prog 22 #[.int .i64 n, .int .i64 m] w fun e w' => ∃ v, InRange m v ∧ e = .returned v ∧ w = w' := by
  have h1 : n.tmod m < m := Int.tmod_lt_of_pos n hm
  have h2 : -m < n.tmod m := by
    have := Int.lt_tmod_of_pos n hm
    omega
  obtain ⟨t, ht⟩ : ∃ t, n.tmod m = t := ⟨_, rfl⟩
  rw [ht] at h1 h2
  have hne : (m == 0) = false := by simp; omega
  by_cases hneg : t < 0
  · go_enter Try.func22, Try.ntmps22
    go_wp2
    go_ret
    exact ⟨_, ⟨_, ⟨by omega, by omega⟩, rfl⟩, rfl, rfl⟩
  · go_enter Try.func22, Try.ntmps22
    go_wp2
    go_ret
    exact ⟨_, ⟨_, ⟨by omega, by omega⟩, rfl⟩, rfl, rfl⟩

def IsU64 (v : Value) : Prop := ∃ x : Int, U64 x ∧ v = .int .u64 x
theorem u64_wrap (x : Int) : U64 (IntKind.u64.wrap x) := by
  rw [IntKind.wrap_u64]
  unfold U64
  omega
set_option maxHeartbeats 400000 in
theorem word_c (n how : Int) (w : World) (hn : U64 n) :
    Calls Try.prog 41 #[.int .u64 n, .int .i64 how] w fun e w' => ∃ v, IsU64 v ∧ e = .returned v ∧ w = w' := by
  have hn0 : 0 ≤ n := hn.1
  have hm64 : 0 ≤ n % 64 := by omega
  go_enter Try.func41, Try.ntmps41
  go_wp2_with fail
  refine (pick_c how 5 _ (by omega) (by omega)).mono ?_
  rintro e w1 ⟨_, ⟨r, ⟨h0, h5⟩, rfl⟩, rfl, rfl⟩
  rcases (show r = 0 ∨ r = 1 ∨ r = 2 ∨ (r = 3 ∨ r = 4) by omega) with rfl | rfl | rfl | h
  · go_wp2
    go_ret
    exact ⟨_, ⟨n % 16, by unfold U64; omega, rfl⟩, rfl, rfl⟩
  · go_wp2
    go_ret
    exact ⟨_, ⟨18446744073709551615 - n % 16, by unfold U64; omega, rfl⟩, rfl, rfl⟩
  · go_wp2
    go_ret
    exact ⟨_, ⟨_, u64_wrap _, rfl⟩, rfl, rfl⟩
  · rcases h with rfl | rfl
    · go_wp2
      go_ret
      exact ⟨_, ⟨n, hn, rfl⟩, rfl, rfl⟩
    · go_wp2
      go_ret
      exact ⟨_, ⟨n, hn, rfl⟩, rfl, rfl⟩

set_option maxHeartbeats 400000 in
theorem words_l (a b how : Int) (w : World) (ha : U64 a) (hb : U64 b) :
    Calls Try.prog 21 #[.int .u64 a, .int .u64 b, .int .i64 how] w (Ret w (IsAgg2 (fun x y => U64 x ∧ U64 y))) := by
  go_enter Try.func21, Try.ntmps21
  go_wp2_with fail
  refine (word_c _ _ _ ha).mono ?_
  rintro e w1 ⟨_, ⟨x, hx, rfl⟩, rfl, rfl⟩
  go_wp2_with fail
  refine (word_c _ _ _ hb).mono ?_
  rintro e w1 ⟨_, ⟨y, hy, rfl⟩, rfl, rfl⟩
  go_wp2
  exact bodyPost_ret (v := .agg #[.int .u64 x, .int .u64 y]) (by simp [results, Try.results21, go_sem]) rfl ⟨_, ⟨_, _, ⟨hx, hy⟩, rfl⟩, rfl, (Below.refl _ _).alloc (Nat.le_refl _) _⟩

def IsTrue (v : Value) : Prop := v = .bool true
theorem known_eq {x y z u : Int} (h : MulR 0 1 0 1 x y z u) : eqW4 x y z u 0 0 1 0 = true := by
  obtain ⟨h0, h1, h2, h3, e⟩ := h
  refine eqW4_yes (v4_inj h0 h1 h2 h3 u64_0 u64_0 u64_1 u64_0 (e.trans ?_))
  simp [v4, v2]
set_option maxHeartbeats 400000 in
theorem known_c (w : World) : Calls Try.prog 15 #[] w (Ret w IsTrue) := by
  have q7 : eqW2 7 0 7 0 = true := by simp [eqW2]
  go_enter Try.func15, Try.ntmps15
  go_wp2_with fail
  refine (mul_c 0 1 0 1 _ u64_0 u64_1 u64_0 u64_1).mono ?_
  rintro e w1 ⟨_, ⟨x, y, z, u, HM, rfl⟩, rfl, hb⟩
  have q := known_eq HM
  go_wp2_with fail
  refine (of_x 7 _).mono ?_
  rintro e w2 ⟨rfl, rfl⟩
  go_wp2
  go_ret
  exact ⟨_, rfl, rfl, bel_alloc hb _⟩
end Go.Proofs.Ytdpkmhgmglljjaa

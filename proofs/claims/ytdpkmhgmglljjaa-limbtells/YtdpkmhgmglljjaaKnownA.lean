/- What the closed sentence's calls come to. -/
import Derived.Test.YtdpkmhgmglljjaaHold
namespace Go.Proofs.Ytdpkmhgmglljjaa
open Go.RowKit

theorem u64_lit (n : Nat) (h : n < 18446744073709551616) : U64 (n : Int) := by unfold U64; omega
theorem u64_full : U64 18446744073709551615 := by unfold U64; omega
theorem u64_2 : U64 2 := by unfold U64; omega
theorem u64_3 : U64 3 := by unfold U64; omega
theorem u64_5 : U64 5 := by unfold U64; omega
theorem u64_9 : U64 9 := by unfold U64; omega
theorem u64_top : U64 9223372036854775808 := by unfold U64; omega
theorem u64_e20 : U64 7766279631452241920 := by unfold U64; omega
theorem k1 {x y : Int} {p : Bool} (h : AddR 18446744073709551615 1 1 0 x y p) : x = 0 ∧ y = 2 ∧ p = true := by
  obtain ⟨h0, h1, ⟨_, hp, e⟩ | ⟨l, _⟩⟩ := h
  · obtain ⟨e0, e1⟩ := v2_inj h0 h1 u64_0 u64_2 (e.trans (by simp [v2]))
    exact ⟨e0, e1, hp⟩
  · simp [v2] at l
theorem k2 {x y : Int} {p : Bool} (h : AddR 18446744073709551615 18446744073709551615 1 0 x y p) : x = 0 ∧ y = 0 ∧ p = false := by
  obtain ⟨h0, h1, ⟨l, _⟩ | ⟨_, hp, e0, e1⟩⟩ := h
  · simp [v2] at l
  · exact ⟨e0, e1, hp⟩
theorem k3 {x y : Int} {p : Bool} (h : SubR 0 1 1 0 x y p) : x = 18446744073709551615 ∧ y = 0 ∧ p = true := by
  obtain ⟨h0, h1, ⟨_, hp, e⟩ | ⟨l, _⟩⟩ := h
  · have e1 : v2 1 0 = 1 := by simp [v2]
    have e2 : v2 0 1 = 18446744073709551616 := by simp [v2]
    have e3 : v2 18446744073709551615 0 = 18446744073709551615 := by simp [v2]
    obtain ⟨f0, f1⟩ := v2_inj h0 h1 u64_full u64_0 (by omega)
    exact ⟨f0, f1, hp⟩
  · simp [v2] at l
theorem k4 {x y : Int} {p : Bool} (h : SubR 1 0 2 0 x y p) : x = 0 ∧ y = 0 ∧ p = false := by
  obtain ⟨h0, h1, ⟨l, _⟩ | ⟨_, hp, e0, e1⟩⟩ := h
  · simp [v2] at l
  · exact ⟨e0, e1, hp⟩
theorem k5 {q0 q1 q2 q3 r0 r1 : Int} {p : Bool} (h : DivR 1 0 1 0 0 1 q0 q1 q2 q3 r0 r1 p) : q0 = 0 ∧ q1 = 1 ∧ q2 = 0 ∧ q3 = 0 ∧ r0 = 1 ∧ r1 = 0 ∧ p = true := by
  have e2 : v2 0 1 = 18446744073709551616 := by simp [v2]
  have e4 : v4 1 0 1 0 = 340282366920938463463374607431768211457 := by simp [v4, v2]
  rcases h with ⟨hz, _⟩ | ⟨_, hp, u0, u1, u2, u3, s0, s1, eq, er⟩
  · omega
  · rw [e2, e4] at eq er
    obtain ⟨a, b, c, d⟩ := v4_inj u0 u1 u2 u3 u64_0 u64_1 u64_0 u64_0 (eq.trans (by simp [v4, v2]))
    obtain ⟨f, g⟩ := v2_inj s0 s1 u64_1 u64_0 (er.trans (by simp [v2]))
    exact ⟨a, b, c, d, f, g, hp⟩
theorem k6 {q0 q1 q2 q3 r0 r1 : Int} {p : Bool} (h : DivR 1 0 0 0 0 0 q0 q1 q2 q3 r0 r1 p) : q0 = 0 ∧ q1 = 0 ∧ q2 = 0 ∧ q3 = 0 ∧ r0 = 0 ∧ r1 = 0 ∧ p = false := by
  rcases h with ⟨_, hp, a, b, c, d, e, f⟩ | ⟨l, _⟩
  · exact ⟨a, b, c, d, e, f, hp⟩
  · simp [v2] at l
theorem k7 {x y : Int} {p : Bool} (h : TenR 20 x y p) : x = 7766279631452241920 ∧ y = 5 ∧ p = true := by
  obtain ⟨h0, h1, ⟨_, _, hp, e⟩ | ⟨n, _⟩⟩ := h
  · obtain ⟨a, b⟩ := v2_inj h0 h1 u64_e20 u64_5 (e.trans (by simp [v2]))
    exact ⟨a, b, hp⟩
  · exact absurd ⟨by omega, by omega⟩ n
theorem k8 {x y : Int} {p : Bool} (h : TenR 39 x y p) : x = 0 ∧ y = 0 ∧ p = false := by
  obtain ⟨h0, h1, ⟨_, hl, _⟩ | ⟨_, hp, a, b⟩⟩ := h
  · omega
  · exact ⟨a, b, hp⟩
theorem k9 {x y : Int} {p : Bool} (h : ShortR 1 2 3 0 x y p) : x = 0 ∧ y = 0 ∧ p = false := by
  rcases h with ⟨⟨h, _⟩, _⟩ | ⟨_, hp, a, b⟩
  · omega
  · exact ⟨a, b, hp⟩
theorem kl1 {x y z u : Int} (h : LeftR 3 0 0 0 255 x y z u) : eqW4 x y z u 0 0 0 9223372036854775808 = true := by
  obtain ⟨h0, h1, h2, h3, e⟩ := h
  have ec : clampK 255 = 255 := by simp [clampK]
  have ev : v4 3 0 0 0 = 3 := by simp [v4, v2]
  rw [ec, ev] at e
  exact eqW4_yes (v4_inj h0 h1 h2 h3 u64_0 u64_0 u64_0 u64_top (e.trans (by simp [v4, v2])))
theorem kl2 {x y z u : Int} (h : LeftR 3 0 0 0 256 x y z u) : eqW4 x y z u 0 0 0 0 = true := by
  obtain ⟨h0, h1, h2, h3, e⟩ := h
  have ec : clampK 256 = 256 := by simp [clampK]
  have ev : v4 3 0 0 0 = 3 := by simp [v4, v2]
  rw [ec, ev] at e
  exact eqW4_yes (v4_inj h0 h1 h2 h3 u64_0 u64_0 u64_0 u64_0 (e.trans (by simp [v4, v2])))
theorem kr1 {x y z u : Int} (h : RightR 0 0 0 9223372036854775808 255 x y z u) : eqW4 x y z u 1 0 0 0 = true := by
  obtain ⟨h0, h1, h2, h3, e⟩ := h
  have ec : clampK 255 = 255 := by simp [clampK]
  have ev : v4 0 0 0 9223372036854775808 = 57896044618658097711785492504343953926634992332820282019728792003956564819968 := by simp [v4, v2]
  rw [ec, ev] at e
  exact eqW4_yes (v4_inj h0 h1 h2 h3 u64_1 u64_0 u64_0 u64_0 (e.trans (by simp [v4, v2])))
theorem kr2 {x y z u : Int} (h : RightR 5 9 0 0 (-3) x y z u) : eqW4 x y z u 5 9 0 0 = true := by
  obtain ⟨h0, h1, h2, h3, e⟩ := h
  have ec : clampK (-3) = 0 := by simp [clampK]
  rw [ec, Nat.pow_zero, Nat.div_one] at e
  exact eqW4_yes (v4_inj h0 h1 h2 h3 u64_5 u64_9 u64_0 u64_0 e)
theorem kb1 {n : Nat} (h : BitsN (v4 0 0 0 0) n) : n = 0 := bitsN_unique h (by rw [v4_n0]; simp [BitsN])
theorem kb2 {n : Nat} (h : BitsN (v4 0 1 0 0) n) : n = 65 := bitsN_unique h (by
  have e : v4 0 1 0 0 = 18446744073709551616 := by simp [v4, v2]
  rw [e]; simp [BitsN])
theorem kc1 : cmpI (v2 2 0) (v2 0 1) = -1 := by simp [cmpI, v2]
theorem kc2 : cmpI (v2 2 0) (v2 2 0) = 0 := by simp [cmpI]
end Go.Proofs.Ytdpkmhgmglljjaa

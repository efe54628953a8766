/- Package role: bit, Right; RightRoles of pyxref4; Pick. -/
import Derived.Test.YtiocmkaplblelaaRoleQ
namespace Go.Proofs.Ytiocmkaplblelaa
open Go.RowKit
theorem roBit_c (k : Nat) (x : Int) (w : World) (hx : x = (k : Int)) (hk : k < 18446744073709551616) : Calls Try.prog 16 #[.int .i64 x] w fun e w' => e = .returned (.int .u64 ((bN k : Nat) : Int)) ∧ w = w' := by
  subst hx
  have e := shl_one k hk
  rw [wrap_nat hk, Int.toNat_natCast] at e
  go_enter Try.func16, Try.ntmps16
  go_wp2
  go_ret
  exact ⟨rfl, rfl⟩
theorem roRight_c (A : Option Addr) (n c : Nat) (L : List Int) (w : World) (h : IL w w.heap.size A n c L) (hn : n ≤ 9223372036854775807) : Calls Try.prog 9 #[.slice A n c] w fun e w' => e = .returned (.bool (rightL L)) ∧ w = w' := by
  by_cases h8 : n ≤ 8
  · have hgo := rightL_go (L := L) (by rw [h.1]; exact h8)
    rw [h.1] at hgo
    go_enter Try.func9, Try.ntmps9
    go_wp2
    go_loop [10] (fun i => ∃ k : Nat, k ≤ n ∧ i = .int .i64 k ∧ rightGo L k) (fun i => n - (intOf i).toNat)
    case atStart => exact ⟨0, Nat.zero_le _, rfl, rightGo_zero _⟩
    case round =>
      obtain ⟨k, hk, rfl, hg⟩ := hrel
      by_cases hlt : k < n
      · obtain ⟨g, o, rfl, hgb, hc, he⟩ := h.at_ hlt
        generalize L.getD k 0 = x at hc he
        have hs := rightGo_succ he
        have hb := rightL_bad he
        by_cases h1 : x < -1
        · have hv := Lib.hid (hb (.inl h1))
          clear hgo hs hb
          go_wp2
          go_ret
          exact ⟨by rw [hv.out]; rfl, rfl⟩
        · by_cases h2 : (k : Int) ≤ x
          · have hv := Lib.hid (hb (.inr h2))
            clear hgo hs hb
            go_wp2
            go_ret
            exact ⟨by rw [hv.out]; rfl, rfl⟩
          · clear hb
            go_wp2
            go_round
            case rel => exact ⟨k + 1, by omega, by go_num, hs.2 ⟨hg, by omega, by omega⟩⟩
            case measure => simp [intOf]; omega
      · obtain rfl : k = n := by omega
        have hv := Lib.hid (hgo.2 hg)
        clear hgo
        go_wp2
        go_ret
        exact ⟨by rw [hv.out]; rfl, rfl⟩
  · rw [rightL_long (by rw [h.1]; omega)]
    clear h
    go_enter Try.func9, Try.ntmps9
    go_wp2
    go_ret
    exact ⟨rfl, rfl⟩
theorem rfRight_c (A : Option Addr) (n c : Nat) (L : List Int) (w : World) (h : IL w w.heap.size A n c L) (hn : n ≤ 9223372036854775807) : Calls Try.prog 13 #[.slice A n c] w fun e w' => e = .returned (.bool (rightL L)) ∧ w = w' := by
  by_cases h8 : n ≤ 8
  · have hgo := rightL_go (L := L) (by rw [h.1]; exact h8)
    rw [h.1] at hgo
    go_enter Try.func13, Try.ntmps13
    go_wp2
    go_loop [3] (fun i => ∃ k : Nat, k ≤ n ∧ i = .int .i64 k ∧ rightGo L k) (fun i => n - (intOf i).toNat)
    case atStart => exact ⟨0, Nat.zero_le _, rfl, rightGo_zero _⟩
    case round =>
      obtain ⟨k, hk, rfl, hg⟩ := hrel
      by_cases hlt : k < n
      · obtain ⟨g, o, rfl, hgb, hc, he⟩ := h.at_ hlt
        generalize L.getD k 0 = x at hc he
        have hs := rightGo_succ he
        have hb := rightL_bad he
        by_cases h1 : x < -1
        · have hv := Lib.hid (hb (.inl h1))
          clear hgo hs hb
          go_wp2
          go_ret
          exact ⟨by rw [hv.out]; rfl, rfl⟩
        · by_cases h2 : (k : Int) ≤ x
          · have hv := Lib.hid (hb (.inr h2))
            clear hgo hs hb
            go_wp2
            go_ret
            exact ⟨by rw [hv.out]; rfl, rfl⟩
          · clear hb
            go_wp2
            go_round
            case rel => exact ⟨k + 1, by omega, by go_num, hs.2 ⟨hg, by omega, by omega⟩⟩
            case measure => simp [intOf]; omega
      · obtain rfl : k = n := by omega
        have hv := Lib.hid (hgo.2 hg)
        clear hgo
        go_wp2
        go_ret
        exact ⟨by rw [hv.out]; rfl, rfl⟩
  · rw [rightL_long (by rw [h.1]; omega)]
    clear h
    go_enter Try.func13, Try.ntmps13
    go_wp2
    go_ret
    exact ⟨rfl, rfl⟩
end Go.Proofs.Ytiocmkaplblelaa

/- Package role: All. -/
import Derived.Test.YtiocmkaplblelaaRoleA
namespace Go.Proofs.Ytiocmkaplblelaa
open Go.RowKit
def AllRel (L : List Int) (r : Nat) (u v : Value) : Prop :=
  ∃ (i a : Nat) (q : Int), i ≤ L.length ∧ q = (i : Int) - 1 ∧ v = .int .i64 q ∧ u = .int .u64 (a : Int) ∧ AllC L r i a
theorem and_ne (a k : Nat) {p : Int} (ha : a < 18446744073709551616) (hk : k < 64) (hp : p = ((bN k : Nat) : Int)) (β : Bool) (hβ : a.testBit k = β) : (bits .and .u64 (a : Int) p != 0) = β := by
  rw [hp, bN_of hk, and_bits ha (pow64 hk) rfl rfl]
  have h := bit_and a k
  rw [hβ] at h
  cases β
  · rw [h.2 rfl]; rfl
  · have : a &&& 2 ^ k ≠ 0 := fun g => by have := h.1 g; cases this
    simp only [bne_iff_ne, ne_eq]
    omega
theorem or_bit (a k : Nat) {p : Int} (ha : a < 18446744073709551616) (hk : k < 64) (hp : p = ((bN k : Nat) : Int)) : bits .or .u64 (a : Int) p = ((a ||| 2 ^ k : Nat) : Int) := by
  rw [hp, bN_of hk, or_bits ha (pow64 hk) rfl rfl]
set_option maxRecDepth 100000 in
set_option maxHeartbeats 1600000 in
theorem roAll_c (A : Option Addr) (n c : Nat) (L : List Int) (r : Nat) (x : Int) (w : World) (h : IL w w.heap.size A n c L) (hn : n ≤ 9223372036854775807) (hx : x = (r : Int)) (hr : r < 18446744073709551616) :
    Calls Try.prog 8 #[.slice A n c, .int .u64 x] w fun e w' => e = .returned (.int .u64 ((allV L r : Nat) : Int)) ∧ w = w' := by
  subst hx
  have HR := Lib.hid (roRight_c A n c L w h hn)
  cases hR : rightL L
  · rw [hR] at HR
    rw [allV_wrong hR]
    clear h
    go_enter Try.func8, Try.ntmps8
    go_wp2_with fail
    (with_reducible refine HR.out.mono ?_)
    rintro e w' ⟨rfl, rfl⟩
    go_wp2
    go_ret
    exact ⟨rfl, rfl⟩
  · rw [hR] at HR
    rw [allV_right hR]
    have hRR := rightL_iff.1 hR
    have h8 := hRR.1
    rw [h.1] at h8
    obtain ⟨V, hV⟩ : ∃ V, allN L r = V := ⟨_, rfl⟩
    rw [hV]
    obtain ⟨a0, ha0⟩ : ∃ a0, r &&& (2 ^ L.length - 1) = a0 := ⟨_, rfl⟩
    have I0 := allC_start hRR r
    rw [ha0] at I0
    obtain ⟨p, hp, hp1, hp2⟩ : ∃ p : Int, ((bN n : Nat) : Int) = p ∧ 1 ≤ p ∧ p ≤ 256 := by
      refine ⟨_, rfl, ?_, ?_⟩ <;> rw [bN_of (by omega)]
      · have := Nat.two_pow_pos n
        omega
      · have : 2 ^ n ≤ 2 ^ 8 := Nat.pow_le_pow_right (by decide) h8
        have e : (2 : Nat) ^ 8 = 256 := rfl
        omega
    have hM : bits .and .u64 (r : Int) (p - 1) = ((a0 : Nat) : Int) := by
      rw [← ha0, h.1, ← hp, bN_of (by omega)]
      have hpos := Nat.two_pow_pos n
      exact and_bits hr (b := 2 ^ n - 1) (by have := pow64 (k := n) (by omega); omega) rfl (by omega)
    have RB := Lib.hid (fun w' => by have h := roBit_c n (n : Int) w' rfl (by omega); rw [hp] at h; exact h)
    have HI := Lib.hid I0
    have HN := Lib.hid hV
    have HRR := Lib.hid hRR
    have HL := Lib.hid h
    clear I0 hV hRR hR h hp
    go_enter Try.func8, Try.ntmps8
    go_wp2_with fail
    (with_reducible refine HR.out.mono ?_)
    rintro e w' ⟨rfl, rfl⟩
    go_wp2_with fail
    (with_reducible refine (RB.out _).mono ?_)
    rintro e w' ⟨rfl, rfl⟩
    go_wp2
    clear RB HR hM hp1 hp2
    go_loop [5, 6] (fun u v => AllRel L r u v) (fun _ v => (intOf v + 1).toNat)
    case atStart => exact ⟨n, a0, _, by rw [HL.out.1]; omega, rfl, by go_num, rfl, by have := HI.out; rwa [HL.out.1] at this⟩
    case round =>
      obtain ⟨i, a, q, hi, hq, rfl, rfl, hI⟩ := hrel
      rw [HL.out.1] at hi
      cases i with
      | zero =>
        obtain rfl : q = -1 := by omega
        have HV := Lib.hid ((allC_end HRR.out hI).trans HN.out)
        clear hI hq
        go_wp2
        go_ret
        exact ⟨by rw [← HV.out]; rfl, rfl⟩
      | succ i =>
        obtain rfl : q = (i : Int) := by omega
        obtain ⟨g, o, rfl, hgb, hc, he⟩ := HL.out.at_ (k := i) (by omega)
        obtain ⟨y, hy⟩ : ∃ y, L.getD i 0 = y := ⟨_, rfl⟩
        rw [hy] at hc he
        have hlt := allC_lt HRR.out hI
        have hb1 := (HRR.out.2 i y he).1
        have hb2 := (HRR.out.2 i y he).2
        obtain ⟨p, hp⟩ : ∃ p : Int, ((bN i : Nat) : Int) = p := ⟨_, rfl⟩
        have RB := Lib.hid (fun w' => by have h := roBit_c i (i : Int) w' rfl (by omega); rw [hp] at h; exact h)
        cases ht : a.testBit i
        · have hN := and_ne a i (by omega) (by omega) hp.symm false ht
          have HI2 := Lib.hid (allC_skip HRR.out hI (.inl ht))
          clear hI hp hy he ht hq
          go_wp2_with fail
          (with_reducible refine (RB.out _).mono ?_)
          rintro e w' ⟨rfl, rfl⟩
          go_wp2
          go_round
          case rel => exact ⟨i, a, _, by rw [HL.out.1]; omega, rfl, by go_num, rfl, HI2.out⟩
          case measure => simp [intOf]
        · have hN := and_ne a i (by omega) (by omega) hp.symm true ht
          by_cases hy1 : y = -1
          · subst hy1
            have HI2 := Lib.hid (allC_skip HRR.out hI (.inr he))
            clear hI hp hy he ht hq
            go_wp2_with fail
            (with_reducible refine (RB.out _).mono ?_)
            rintro e w' ⟨rfl, rfl⟩
            go_wp2
            go_round
            case rel => exact ⟨i, a, _, by rw [HL.out.1]; omega, rfl, by go_num, rfl, HI2.out⟩
            case measure => simp [intOf]
          · obtain ⟨k, rfl⟩ : ∃ k : Nat, y = (k : Int) := ⟨y.toNat, by omega⟩
            obtain ⟨p2, hp2⟩ : ∃ p2 : Int, ((bN k : Nat) : Int) = p2 := ⟨_, rfl⟩
            have RB2 := Lib.hid (fun w' => by have h := roBit_c k (k : Int) w' rfl (by omega); rw [hp2] at h; exact h)
            have hO := or_bit a k (by omega) (by omega) hp2.symm
            have HI2 := Lib.hid (allC_step HRR.out hI ht he)
            clear hI hp hp2 hy he ht hq
            go_wp2_with fail
            (with_reducible refine (RB.out _).mono ?_)
            rintro e w' ⟨rfl, rfl⟩
            go_wp2_with fail
            (with_reducible refine (RB2.out _).mono ?_)
            rintro e w' ⟨rfl, rfl⟩
            go_wp2
            go_round
            case rel => exact ⟨i, _, _, by rw [HL.out.1]; omega, rfl, by go_num, rfl, HI2.out⟩
            case measure => simp [intOf]
end Go.Proofs.Ytiocmkaplblelaa

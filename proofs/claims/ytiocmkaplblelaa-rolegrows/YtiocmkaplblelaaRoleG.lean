/- RoleGrows. -/
import Derived.Test.YtiocmkaplblelaaRoleE
import Derived.Deep.DeepCutAuto
import Derived.Deep.CutBlock
namespace Go.Proofs.Ytiocmkaplblelaa
open Go.RowKit
theorem grow_there {L : List Int} (h : RightR L) (r : Nat) : allN L r &&& (2 ^ L.length - 1) = allN L r := by
  rw [Nat.and_two_pow_sub_one_eq_mod]
  exact Nat.mod_eq_of_lt (allN_lt h r)
theorem grow_own {L : List Int} (h : RightR L) (r : Nat) : allN L r &&& r = r &&& (2 ^ L.length - 1) := by
  refine Nat.eq_of_testBit_eq fun m => ?_
  rw [Nat.and_two_pow_sub_one_eq_mod, Nat.testBit_mod_two_pow, Nat.testBit_and, Bool.eq_iff_iff, Bool.and_eq_true, Bool.and_eq_true, decide_eq_true_eq]
  constructor
  · rintro ⟨h1, h2⟩
    exact ⟨((allN_bit h r m).1 h1).lt h, h2⟩
  · rintro ⟨h1, h2⟩
    exact ⟨allN_own h r h1 h2, h2⟩
def GrowRel (n : Nat) (i : Value) : Prop := ∃ k : Nat, k ≤ n ∧ i = .int .i64 k
set_option maxRecDepth 100000 in
set_option maxHeartbeats 1600000 in
theorem roleGrows_c (A : Option Addr) (n c : Nat) (xs : List Int) (r s : Int) (w : World) (h : IL w w.heap.size A n c xs) (hn : n ≤ 9223372036854775807) (hr0 : 0 ≤ r) (hr1 : r < 18446744073709551616) (hs0 : 0 ≤ s) (hs1 : s < 18446744073709551616) :
    Calls Try.prog 5 #[.slice A n c, .int .u64 r, .int .u64 s] w (RetB w true) := by
  have HP := Lib.hid (parents_c A n c xs 0 w h hn (by omega) (by omega))
  obtain ⟨ρ, rfl⟩ : ∃ ρ : Nat, r = (ρ : Int) := ⟨r.toNat, by omega⟩
  obtain ⟨σ, rfl⟩ : ∃ σ : Nat, s = (σ : Int) := ⟨s.toNat, by omega⟩
  have HR1 := Lib.hid (show ρ < 18446744073709551616 from by omega)
  have HS1 := Lib.hid (show σ < 18446744073709551616 from by omega)
  have HN := Lib.hid hn
  clear h hr0 hr1 hs0 hs1 hn
  go_enter Try.func5, Try.ntmps5
  go_wp2_with fail
  (with_reducible refine HP.out.mono ?_)
  rintro e w1 ⟨A, n', c, L, rfl, hL, hn10, hG, hb⟩
  have HL := Lib.hid hL
  have HB := Lib.hid hb
  have HG := Lib.hid (hG trivial)
  clear hL hb hG HP
  by_cases h8 : n' ≤ 8
  · have HL4 := Lib.hid HL.out
    have HG4 := Lib.hid HG.out
    clear HL HG
    generalize L = Λ at HL4 HG4
    generalize c = d at HL4 ⊢
    have hlen := HL4.out.1
    obtain ⟨p, hp, hp1, hp2⟩ : ∃ p : Int, ((bN n' : Nat) : Int) = p ∧ 1 ≤ p ∧ p ≤ 256 := by
      refine ⟨_, rfl, ?_, ?_⟩ <;> rw [bN_of (by omega)]
      · have := Nat.two_pow_pos n'
        omega
      · have : 2 ^ n' ≤ 2 ^ 8 := Nat.pow_le_pow_right (by decide) (by omega)
        have e : (2 : Nat) ^ 8 = 256 := rfl
        omega
    have hs := shl_few (k := n') (by omega)
    rw [hp] at hs
    have hT : p - 1 = ((2 ^ n' - 1 : Nat) : Int) := by
      rw [← hp, bN_of (by omega)]
      have := Nat.two_pow_pos n'
      omega
    have hTl : 2 ^ n' - 1 < 256 := by omega
    clear hp
    have hr1 := HR1.out
    have hs1 := HS1.out
    have hr1' : ρ < 2 ^ 64 := by
      have e : (2 : Nat) ^ 64 = 18446744073709551616 := rfl
      omega
    have hs1' : σ < 2 ^ 64 := by
      have e : (2 : Nat) ^ 64 = 18446744073709551616 := rfl
      omega
    have hRR : RightR Λ := rightL_iff.1 (HG4.out.right (by rw [HL4.out.1]; omega))
    have hR := HG4.out.right (by rw [HL4.out.1]; omega)
    have hlen := HL4.out.1
    have hrs : ρ ||| σ < 18446744073709551616 := Nat.or_lt_two_pow (n := 64) hr1' hs1'
    obtain ⟨a, ha⟩ : ∃ a, allV Λ ρ = a := ⟨_, rfl⟩
    obtain ⟨b, hb⟩ : ∃ b, allV Λ σ = b := ⟨_, rfl⟩
    have hal := allV_lt Λ ρ
    have hbl := allV_lt Λ σ
    rw [ha] at hal
    rw [hb] at hbl
    have hE0 : bits .and .u64 (a : Int) (p - 1) = (a : Int) := by
      rw [and_bits (b := 2 ^ n' - 1) (by omega) (by omega) rfl hT, ← ha, allV_right hR, ← hlen, grow_there hRR]
    obtain ⟨z, hz⟩ : ∃ z : Int, ((ρ &&& (2 ^ n' - 1) : Nat) : Int) = z := ⟨_, rfl⟩
    have hE1 : bits .and .u64 (a : Int) (ρ : Int) = z := by
      rw [and_bits (by omega) (by omega) rfl rfl, ← ha, allV_right hR, grow_own hRR, hlen, hz]
    have hE2 : bits .and .u64 (ρ : Int) (p - 1) = z := by
      rw [and_bits (b := 2 ^ n' - 1) (by omega) (by omega) rfl hT, hz]
    obtain ⟨y, hy⟩ : ∃ y : Int, ((a ||| b : Nat) : Int) = y := ⟨_, rfl⟩
    have hE3 : bits .or .u64 (a : Int) (b : Int) = y := by rw [or_bits (by omega) (by omega) rfl rfl, hy]
    obtain ⟨x, hx⟩ : ∃ x : Int, ((ρ ||| σ : Nat) : Int) = x := ⟨_, rfl⟩
    have hE4 : bits .or .u64 (ρ : Int) (σ : Int) = x := by rw [or_bits (by omega) (by omega) rfl rfl, hx]
    have HA := Lib.hid (fun (w' : World) (h : IL w' w'.heap.size A n' d Λ) => by have g := roAll_c A n' d Λ ρ (ρ : Int) w' h (by omega) rfl (by omega); rw [ha] at g; exact g)
    have HB' := Lib.hid (fun (w' : World) (h : IL w' w'.heap.size A n' d Λ) => by have g := roAll_c A n' d Λ σ (σ : Int) w' h (by omega) rfl (by omega); rw [hb] at g; exact g)
    have HAA := Lib.hid (fun (w' : World) (h : IL w' w'.heap.size A n' d Λ) => by have g := roAll_c A n' d Λ a (a : Int) w' h (by omega) rfl (by omega); rw [show allV Λ a = a by rw [← ha, allV_right hR, allV_right hR, allN_idem hRR]] at g; exact g)
    have HAB := Lib.hid (fun (w' : World) (h : IL w' w'.heap.size A n' d Λ) => by have g := roAll_c A n' d Λ (ρ ||| σ) x w' h (by omega) hx.symm hrs; rw [show allV Λ (ρ ||| σ) = a ||| b by rw [← ha, ← hb, allV_right hR, allV_right hR, allV_right hR, allN_or hRR], hy] at g; exact g)
    have HH := Lib.hid (fun (w' : World) (k : Nat) (h : IL w' w'.heap.size A n' d Λ) (hk : k < 8) => by have g := roHas_c A n' d Λ ρ (ρ : Int) (k : Int) w' h (by omega) rfl (by omega) (by omega); rw [hasV_nat, ha] at g; exact g)
    have HUP := Lib.hid (show ∀ k q : Nat, a.testBit k = true → Λ[k]? = some (q : Int) → a.testBit q = true ∧ q < 8 from fun k q h1 h2 => by
      refine ⟨?_, by have := (hRR.lt h2); omega⟩
      rw [← ha, allV_right hR] at h1 ⊢
      exact allN_up hRR ρ h1 h2)
    clear ha hb hz hy hx hT hTl hRR hR hrs hr1 hs1 hr1' hs1' hal hbl
    go_wp2_with fail
    (with_reducible refine (HA.out _ HL4.out).mono ?_)
    rintro e w' ⟨rfl, rfl⟩
    go_wp2_with fail
    (with_reducible refine (HB'.out _ HL4.out).mono ?_)
    rintro e w' ⟨rfl, rfl⟩
    go_wp2_with fail
    (with_reducible refine (known9_c w1).mono ?_)
    rintro e w2 ⟨rfl, hb2⟩
    have HL5 := Lib.hid (il_up HL4.out hb2)
    have HB5 := Lib.hid (HB.out.trans (hb2.mono HB.out.size))
    clear hb2 HL4 HB HA HB'
    go_wp2_with fail
    (with_reducible refine (HAA.out _ HL5.out).mono ?_)
    rintro e w' ⟨rfl, rfl⟩
    go_wp2_with fail
    (with_reducible refine (HAB.out _ HL5.out).mono ?_)
    rintro e w' ⟨rfl, rfl⟩
    go_wp2
    clear HAA HAB hE0 hE1 hE2 hE3 hE4 hs hp1 hp2
    go_loop [69] (fun i => GrowRel n' i) (fun i => n' - (intOf i).toNat)
    case atStart => exact ⟨0, Nat.zero_le _, rfl⟩
    case round =>
      obtain ⟨k, hk, rfl⟩ := hrel
      by_cases hlt : k < n'
      · have hlt' : (k : Int) < (n' : Nat) := by omega
        obtain ⟨g, o, rfl, hgb, hc, he⟩ := HL5.out.at_ hlt
        obtain ⟨q, hq⟩ : ∃ q, Λ.getD k 0 = q := ⟨_, rfl⟩
        rw [hq] at hc he
        have hgd := HG4.out k q he
        have htm := tmod_bit a k
        obtain ⟨β, hβ⟩ : ∃ β, a.testBit k = β := ⟨_, rfl⟩
        have RK := Lib.hid (by have h := HH.out _ k HL5.out (by omega); rw [hβ] at h; exact h)
        rw [hβ] at htm
        by_cases hq0 : 0 ≤ q
        · obtain ⟨q, rfl⟩ : ∃ m : Nat, q = (m : Int) := ⟨q.toNat, by omega⟩
          cases β
          · clear hq he hβ
            go_wp2_with fail
            (with_reducible refine RK.out.mono ?_)
            rintro e w' ⟨rfl, rfl⟩
            go_wp2_with fail
            (with_reducible refine RK.out.mono ?_)
            rintro e w' ⟨rfl, rfl⟩
            go_wp2
            go_round
            case rel => exact ⟨k + 1, by omega, by go_num⟩
            case measure => simp [intOf]; omega
          · have hu := HUP.out k q hβ he
            have RQ := Lib.hid (by have h := HH.out _ q HL5.out (by omega); rw [hu.1] at h; exact h)
            clear hq he hβ hu
            go_wp2_with fail
            (with_reducible refine RK.out.mono ?_)
            rintro e w' ⟨rfl, rfl⟩
            go_wp2_with fail
            (with_reducible refine RK.out.mono ?_)
            rintro e w' ⟨rfl, rfl⟩
            go_wp2_with fail
            (with_reducible refine RQ.out.mono ?_)
            rintro e w' ⟨rfl, rfl⟩
            go_wp2
            go_round
            case rel => exact ⟨k + 1, by omega, by go_num⟩
            case measure => simp [intOf]; omega
        · clear hq he hβ
          go_wp2_with fail
          (with_reducible refine RK.out.mono ?_)
          rintro e w' ⟨rfl, rfl⟩
          go_wp2
          go_round
          case rel => exact ⟨k + 1, by omega, by go_num⟩
          case measure => simp [intOf]; omega
      · have hlt' : ¬ (k : Int) < (n' : Nat) := by omega
        go_wp2
        go_ret
        exact ⟨rfl, HB5.out⟩
  · have hc : (8 : Int) ≤ (c : Int) := by have := HL.out.2.1; omega
    have hn8 : (8 : Int) < (n' : Int) := by omega
    have HL4 := Lib.hid (HL.out.head (k := 8) (by omega))
    have HG4 := Lib.hid (HG.out.take 8)
    clear HL HG
    generalize L.take 8 = Λ at HL4 HG4
    generalize c = d at HL4 hc ⊢
    have hT : (255 : Int) = ((2 ^ 8 - 1 : Nat) : Int) := rfl
    have hTl : 2 ^ 8 - 1 < 256 := by decide
    have hs := True.intro
    have hp1 := True.intro
    have hp2 := True.intro
    have hr1 := HR1.out
    have hs1 := HS1.out
    have hr1' : ρ < 2 ^ 64 := by
      have e : (2 : Nat) ^ 64 = 18446744073709551616 := rfl
      omega
    have hs1' : σ < 2 ^ 64 := by
      have e : (2 : Nat) ^ 64 = 18446744073709551616 := rfl
      omega
    have hRR : RightR Λ := rightL_iff.1 (HG4.out.right (by rw [HL4.out.1]; omega))
    have hR := HG4.out.right (by rw [HL4.out.1]; omega)
    have hlen := HL4.out.1
    have hrs : ρ ||| σ < 18446744073709551616 := Nat.or_lt_two_pow (n := 64) hr1' hs1'
    obtain ⟨a, ha⟩ : ∃ a, allV Λ ρ = a := ⟨_, rfl⟩
    obtain ⟨b, hb⟩ : ∃ b, allV Λ σ = b := ⟨_, rfl⟩
    have hal := allV_lt Λ ρ
    have hbl := allV_lt Λ σ
    rw [ha] at hal
    rw [hb] at hbl
    have hE0 : bits .and .u64 (a : Int) 255 = (a : Int) := by
      rw [and_bits (b := 2 ^ 8 - 1) (by omega) (by omega) rfl hT, ← ha, allV_right hR, ← hlen, grow_there hRR]
    obtain ⟨z, hz⟩ : ∃ z : Int, ((ρ &&& (2 ^ 8 - 1) : Nat) : Int) = z := ⟨_, rfl⟩
    have hE1 : bits .and .u64 (a : Int) (ρ : Int) = z := by
      rw [and_bits (by omega) (by omega) rfl rfl, ← ha, allV_right hR, grow_own hRR, hlen, hz]
    have hE2 : bits .and .u64 (ρ : Int) 255 = z := by
      rw [and_bits (b := 2 ^ 8 - 1) (by omega) (by omega) rfl hT, hz]
    obtain ⟨y, hy⟩ : ∃ y : Int, ((a ||| b : Nat) : Int) = y := ⟨_, rfl⟩
    have hE3 : bits .or .u64 (a : Int) (b : Int) = y := by rw [or_bits (by omega) (by omega) rfl rfl, hy]
    obtain ⟨x, hx⟩ : ∃ x : Int, ((ρ ||| σ : Nat) : Int) = x := ⟨_, rfl⟩
    have hE4 : bits .or .u64 (ρ : Int) (σ : Int) = x := by rw [or_bits (by omega) (by omega) rfl rfl, hx]
    have HA := Lib.hid (fun (w' : World) (h : IL w' w'.heap.size A 8 d Λ) => by have g := roAll_c A 8 d Λ ρ (ρ : Int) w' h (by omega) rfl (by omega); rw [ha] at g; exact g)
    have HB' := Lib.hid (fun (w' : World) (h : IL w' w'.heap.size A 8 d Λ) => by have g := roAll_c A 8 d Λ σ (σ : Int) w' h (by omega) rfl (by omega); rw [hb] at g; exact g)
    have HAA := Lib.hid (fun (w' : World) (h : IL w' w'.heap.size A 8 d Λ) => by have g := roAll_c A 8 d Λ a (a : Int) w' h (by omega) rfl (by omega); rw [show allV Λ a = a by rw [← ha, allV_right hR, allV_right hR, allN_idem hRR]] at g; exact g)
    have HAB := Lib.hid (fun (w' : World) (h : IL w' w'.heap.size A 8 d Λ) => by have g := roAll_c A 8 d Λ (ρ ||| σ) x w' h (by omega) hx.symm hrs; rw [show allV Λ (ρ ||| σ) = a ||| b by rw [← ha, ← hb, allV_right hR, allV_right hR, allV_right hR, allN_or hRR], hy] at g; exact g)
    have HH := Lib.hid (fun (w' : World) (k : Nat) (h : IL w' w'.heap.size A 8 d Λ) (hk : k < 8) => by have g := roHas_c A 8 d Λ ρ (ρ : Int) (k : Int) w' h (by omega) rfl (by omega) (by omega); rw [hasV_nat, ha] at g; exact g)
    have HUP := Lib.hid (show ∀ k q : Nat, a.testBit k = true → Λ[k]? = some (q : Int) → a.testBit q = true ∧ q < 8 from fun k q h1 h2 => by
      refine ⟨?_, by have := (hRR.lt h2); omega⟩
      rw [← ha, allV_right hR] at h1 ⊢
      exact allN_up hRR ρ h1 h2)
    clear ha hb hz hy hx hT hTl hRR hR hrs hr1 hs1 hr1' hs1' hal hbl
    go_wp2_with fail
    (with_reducible refine (HA.out _ HL4.out).mono ?_)
    rintro e w' ⟨rfl, rfl⟩
    go_wp2_with fail
    (with_reducible refine (HB'.out _ HL4.out).mono ?_)
    rintro e w' ⟨rfl, rfl⟩
    go_wp2_with fail
    (with_reducible refine (known9_c w1).mono ?_)
    rintro e w2 ⟨rfl, hb2⟩
    have HL5 := Lib.hid (il_up HL4.out hb2)
    have HB5 := Lib.hid (HB.out.trans (hb2.mono HB.out.size))
    clear hb2 HL4 HB HA HB'
    go_wp2_with fail
    (with_reducible refine (HAA.out _ HL5.out).mono ?_)
    rintro e w' ⟨rfl, rfl⟩
    go_wp2_with fail
    (with_reducible refine (HAB.out _ HL5.out).mono ?_)
    rintro e w' ⟨rfl, rfl⟩
    go_wp2
    clear HAA HAB hE0 hE1 hE2 hE3 hE4 hs hp1 hp2
    go_loop [69] (fun i => GrowRel 8 i) (fun i => 8 - (intOf i).toNat)
    case atStart => exact ⟨0, Nat.zero_le _, rfl⟩
    case round =>
      obtain ⟨k, hk, rfl⟩ := hrel
      by_cases hlt : k < 8
      · have hlt' : (k : Int) < (8 : Nat) := by omega
        obtain ⟨g, o, rfl, hgb, hc, he⟩ := HL5.out.at_ hlt
        obtain ⟨q, hq⟩ : ∃ q, Λ.getD k 0 = q := ⟨_, rfl⟩
        rw [hq] at hc he
        have hgd := HG4.out k q he
        have htm := tmod_bit a k
        obtain ⟨β, hβ⟩ : ∃ β, a.testBit k = β := ⟨_, rfl⟩
        have RK := Lib.hid (by have h := HH.out _ k HL5.out (by omega); rw [hβ] at h; exact h)
        rw [hβ] at htm
        by_cases hq0 : 0 ≤ q
        · obtain ⟨q, rfl⟩ : ∃ m : Nat, q = (m : Int) := ⟨q.toNat, by omega⟩
          cases β
          · clear hq he hβ
            go_wp2_with fail
            (with_reducible refine RK.out.mono ?_)
            rintro e w' ⟨rfl, rfl⟩
            go_wp2_with fail
            (with_reducible refine RK.out.mono ?_)
            rintro e w' ⟨rfl, rfl⟩
            go_wp2
            go_round
            case rel => exact ⟨k + 1, by omega, by go_num⟩
            case measure => simp [intOf]; omega
          · have hu := HUP.out k q hβ he
            have RQ := Lib.hid (by have h := HH.out _ q HL5.out (by omega); rw [hu.1] at h; exact h)
            clear hq he hβ hu
            go_wp2_with fail
            (with_reducible refine RK.out.mono ?_)
            rintro e w' ⟨rfl, rfl⟩
            go_wp2_with fail
            (with_reducible refine RK.out.mono ?_)
            rintro e w' ⟨rfl, rfl⟩
            go_wp2_with fail
            (with_reducible refine RQ.out.mono ?_)
            rintro e w' ⟨rfl, rfl⟩
            go_wp2
            go_round
            case rel => exact ⟨k + 1, by omega, by go_num⟩
            case measure => simp [intOf]; omega
        · clear hq he hβ
          go_wp2_with fail
          (with_reducible refine RK.out.mono ?_)
          rintro e w' ⟨rfl, rfl⟩
          go_wp2
          go_round
          case rel => exact ⟨k + 1, by omega, by go_num⟩
          case measure => simp [intOf]; omega
      · have hlt' : ¬ (k : Int) < (8 : Nat) := by omega
        go_wp2
        go_ret
        exact ⟨rfl, HB5.out⟩
end Go.Proofs.Ytiocmkaplblelaa

/- RoleChains. -/
import Derived.Test.YtiocmkaplblelaaRoleE
namespace Go.Proofs.Ytiocmkaplblelaa
open Go.RowKit
theorem chainL_succ (k : Nat) : chainL (k + 1) = chainL k ++ [(k : Int) - 1] := by
  unfold chainL
  rw [List.range_succ, List.map_append]
  rfl
theorem aloneL_succ (k : Nat) : aloneL (k + 1) = aloneL k ++ [-1] := List.replicate_succ'
theorem chain_low : ∀ k, k < 8 → (2 ^ (k + 1) - 1).testBit 0 = true ∧ (2 ^ k).testBit 0 = decide (k = 0) ∧ 2 ^ k < 256 := by decide +kernel
/-- Two rows of ints that grow side by side: they lie apart. -/
def TwoRel (w : World) (n : Nat) (u v i : Value) (wr : World) : Prop :=
  ∃ k : Nat, k ≤ n ∧ i = .int .i64 k ∧ wr.ownsRow w.heap.size 3 1 u k ((chainL k).map zV) ∧ wr.ownsRow w.heap.size 3 1 v k ((aloneL k).map zV) ∧ (∀ g, u.ownBlock = some g → v.ownBlock ≠ some g) ∧ Below w.heap.size w wr
set_option maxRecDepth 100000 in
set_option maxHeartbeats 1600000 in
theorem roleChains_c (x y : Int) (w : World) : Calls Try.prog 6 #[.int .i64 x, .int .i64 y] w (RetB w true) := by
  go_enter Try.func6, Try.ntmps6
  go_wp2_with fail
  (with_reducible refine (pickB x 8 _ (by omega) (by omega)).mono ?_)
  rintro e w' ⟨m, hm, rfl, rfl⟩
  obtain ⟨n, hn⟩ : ∃ n : Nat, 1 + (m : Int) = (n : Int) := ⟨1 + m, by omega⟩
  go_wp2_with fail
  (with_reducible refine (pickB y (n : Int) _ (by omega) (by omega)).mono ?_)
  rintro e w' ⟨k, hk, rfl, rfl⟩
  have hk8 : k < 8 := by omega
  have hkn : k < n := by omega
  have hn8 : n ≤ 8 := by omega
  clear hm hn hk
  go_wp2
  go_loopw [5, 6, 7] (fun u v i wr => TwoRel w n u v i wr) (fun _ _ i _ => n - (intOf i).toNat)
  case atStart => exact ⟨0, by omega, rfl, World.ownsRow_nil _ _ _ _, World.ownsRow_nil _ _ _ _, fun g h => by simp [Value.ownBlock] at h, Below.refl _ _⟩
  case round =>
    obtain ⟨i, hi, rfl, hu, hv, hne, hB⟩ := hrel
    have HU := Lib.hid hu
    have HV := Lib.hid hv
    have HE := Lib.hid hne
    have HB := Lib.hid hB
    clear hu hv hne hB
    by_cases hlt : i < n
    · have hlt' : (i : Int) < (n : Int) := by omega
      have hsz := HB.out.size
      go_wp2_with (first
        | (at_builtin; refine wpList_app_int (x := (i : Int) - 1) rfl rfl rfl (HU.out.alloc _) rfl ?c1 ?c2 ?c3 ?_)
        | go_in)
      case c1 => simp
      case c2 => omega
      case c3 => simp; omega
      intro v1 w1 ho1 hg1 _ hn1
      have hU1 : w1.ownsRow w.heap.size 3 1 v1 (i + 1) ((chainL (i + 1)).map zV) := by
        rw [chainL_succ, List.map_append]
        exact ho1
      have hV1 := own_keep (HV.out.alloc (.cells #[.int .i64 ((i : Int) - 1)] 3)) hg1 fun g h1 h2 => HE.out g h2 h1
      have hE1 : ∀ g, v1.ownBlock = some g → u6.ownBlock ≠ some g := fun g h1 h2 => by
        rcases hn1 g h1 with h3 | h3
        · exact HE.out g h3 h2
        · have := own_block HV.out g h2
          omega
      have hB1 : Below w.heap.size w w1 := (HB.out.alloc hsz _).grown hg1 (by simp; omega) (own_base HU.out)
      have HU1 := Lib.hid hU1
      have HV1 := Lib.hid hV1
      have HE1 := Lib.hid hE1
      have HB1 := Lib.hid hB1
      clear ho1 hg1 hn1 hU1 hV1 hE1 hB1 HU HV HE HB hsz
      have hsz := HB1.out.size
      go_wp2_with (first
        | (at_builtin; refine wpList_app_int (x := -1) rfl rfl rfl (HV1.out.alloc _) rfl ?c1 ?c2 ?c3 ?_)
        | go_in)
      case c1 => simp
      case c2 => omega
      case c3 => simp; omega
      intro v2 w2 ho2 hg2 _ hn2
      have hV2 : w2.ownsRow w.heap.size 3 1 v2 (i + 1) ((aloneL (i + 1)).map zV) := by
        rw [aloneL_succ, List.map_append]
        exact ho2
      have hU2 := own_keep (HU1.out.alloc (.cells #[.int .i64 (-1)] 3)) hg2 fun g h1 h2 => HE1.out g h1 h2
      have hE2 : ∀ g, v1.ownBlock = some g → v2.ownBlock ≠ some g := fun g h1 h2 => by
        rcases hn2 g h2 with h3 | h3
        · exact HE1.out g h1 h3
        · have := own_block HU1.out g h1
          omega
      have hB2 : Below w.heap.size w w2 := (HB1.out.alloc hsz _).grown hg2 (by simp; omega) (own_base HV1.out)
      have HU2 := Lib.hid hU2
      have HV2 := Lib.hid hV2
      have HE2 := Lib.hid hE2
      have HB2 := Lib.hid hB2
      clear ho2 hg2 hn2 hU2 hV2 hE2 hB2 HU1 HV1 HE1 HB1 hsz
      go_wp2
      go_roundw
      case rel => exact ⟨i + 1, by omega, by go_num, HU2.out, HV2.out, HE2.out, HB2.out⟩
      case measure => simp [intOf]; omega
    · obtain ⟨hc1, hc2⟩ := chain_all n (by omega) k hkn
      obtain ⟨hl1, hl2, hl3⟩ := chain_low k hk8
      have hr1 : rightL (chainL n) = true := rightL_iff.2 (chain_right hn8)
      have hr2 : rightL (aloneL n) = true := rightL_iff.2 (alone_right hn8)
      have hin : ¬ (i : Int) < (n : Int) := by omega
      obtain rfl : n = i := by omega
      obtain ⟨A1, d1, rfl, hI1, _⟩ := il_own HU.out
      obtain ⟨A2, d2, rfl, hI2, _⟩ := il_own HV.out
      have HI1 := Lib.hid hI1
      have HI2 := Lib.hid hI2
      obtain ⟨p, hp⟩ : ∃ p : Int, ((2 ^ k : Nat) : Int) = p := ⟨_, rfl⟩
      have hs := shl_few (k := k) (by omega)
      rw [bN_of (by omega), hp] at hs
      have hp2 : 1 ≤ p ∧ p ≤ 256 := by
        have := Nat.two_pow_pos k
        omega
      obtain ⟨hp3, hp4⟩ := hp2
      obtain ⟨β, hβ⟩ : ∃ β, ((k : Int) == 0) = β := ⟨_, rfl⟩
      have hβ2 : decide (k = 0) = β := by
        rw [← hβ]
        by_cases h0 : k = 0
        · subst h0; rfl
        · rw [decide_eq_false h0]; simp; omega
      have hV1 : ((allV (chainL n) (2 ^ k) : Nat) : Int) = 2 * p - 1 := by
        rw [allV_right hr1, hc1, ← hp]
        have := Nat.two_pow_pos k
        have e : 2 ^ (k + 1) = 2 * 2 ^ k := by rw [Nat.pow_succ, Nat.mul_comm]
        omega
      have hV2 : ((allV (aloneL n) (2 ^ k) : Nat) : Int) = p := by rw [allV_right hr2, hc2, ← hp]
      have hH1 : hasV (chainL n) (2 ^ k) 0 = true := by
        have := hasV_nat (chainL n) (2 ^ k) 0
        rw [allV_right hr1, hc1, hl1] at this
        exact this
      have hH2 : hasV (aloneL n) (2 ^ k) 0 = β := by
        have := hasV_nat (aloneL n) (2 ^ k) 0
        rw [allV_right hr2, hc2, hl2, hβ2] at this
        exact this
      have RA1 := Lib.hid (fun (w' : World) (h : IL w' w'.heap.size A1 n d1 (chainL n)) => by have g := roAll_c A1 n d1 _ (2 ^ k) p w' h (by omega) hp.symm (by omega); rw [hV1] at g; exact g)
      have RA2 := Lib.hid (fun (w' : World) (h : IL w' w'.heap.size A2 n d2 (aloneL n)) => by have g := roAll_c A2 n d2 _ (2 ^ k) p w' h (by omega) hp.symm (by omega); rw [hV2] at g; exact g)
      have RH1 := Lib.hid (fun (w' : World) (h : IL w' w'.heap.size A1 n d1 (chainL n)) => by have g := roHas_c A1 n d1 _ (2 ^ k) p 0 w' h (by omega) hp.symm (by omega) (by omega); rw [hH1] at g; exact g)
      have RH2 := Lib.hid (fun (w' : World) (h : IL w' w'.heap.size A2 n d2 (aloneL n)) => by have g := roHas_c A2 n d2 _ (2 ^ k) p 0 w' h (by omega) hp.symm (by omega) (by omega); rw [hH2] at g; exact g)
      clear hc1 hc2 hl1 hl2 hl3 hr1 hr2 hI1 hI2 hp hβ2 hV1 hV2 hH1 hH2 HU HV HE
      go_wp2_with fail
      (with_reducible refine (known9_c _).mono ?_)
      rintro e w2 ⟨rfl, hb2⟩
      have HJ1 := Lib.hid (il_up HI1.out hb2)
      have HJ2 := Lib.hid (il_up HI2.out hb2)
      have HB2 := Lib.hid (HB.out.trans (hb2.mono HB.out.size))
      clear hb2 HI1 HI2 HB
      go_wp2_with fail
      (with_reducible refine (RA1.out _ HJ1.out).mono ?_)
      rintro e w' ⟨rfl, rfl⟩
      go_wp2_with fail
      (with_reducible refine (RA2.out _ HJ2.out).mono ?_)
      rintro e w' ⟨rfl, rfl⟩
      go_wp2_with fail
      (with_reducible refine (RH1.out _ HJ1.out).mono ?_)
      rintro e w' ⟨rfl, rfl⟩
      go_wp2_with fail
      (with_reducible refine (RH2.out _ HJ2.out).mono ?_)
      rintro e w' ⟨rfl, rfl⟩
      go_wp2
      go_ret
      exact ⟨rfl, HB2.out⟩
end Go.Proofs.Ytiocmkaplblelaa

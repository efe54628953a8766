/- Package role: bit, Right; RightRoles of pyxref4; Pick. -/
/- Package role: All. -/
/- Package role: Has; All, has and HasRole of pyxref4; Pick. -/
import Derived.Test.YtakofbkbbmpfeaaRoleQ
namespace Go.Proofs.Ytakofbkbbmpfeaa
open Go.RowKit
theorem roBit_c (k : Nat) (x : Int) (w : World) (hx : x = (k : Int)) (hk : k < 18446744073709551616) : Calls Try.prog 59 #[.int .i64 x] w fun e w' => e = .returned (.int .u64 ((bN k : Nat) : Int)) ∧ w = w' := by
  subst hx
  have e := shl_one k hk
  rw [wrapN hk, Int.toNat_natCast] at e
  go_enter Try.func59, Try.ntmps59
  go_wp2
  go_ret
  exact ⟨rfl, rfl⟩
theorem roRight_c (A : Option Addr) (n c : Nat) (L : List Int) (w : World) (h : IL w w.heap.size A n c L) (hn : n ≤ 9223372036854775807) : Calls Try.prog 26 #[.slice A n c] w fun e w' => e = .returned (.bool (rightL L)) ∧ w = w' := by
  by_cases h8 : n ≤ 8
  · have hgo := rightL_go (L := L) (by rw [h.1]; exact h8)
    rw [h.1] at hgo
    go_enter Try.func26, Try.ntmps26
    go_wp2
    go_loop [10] (fun i => ∃ k : Nat, k ≤ n ∧ i = .int .i64 k ∧ rightGo L k) (fun i => n - (intOf i).toNat)
    case atStart => exact ⟨0, Nat.zero_le _, rfl, rightGo_zero _⟩
    case round =>
      obtain ⟨k, hk, rfl, hg⟩ := hrel
      by_cases hlt : k < n
      · obtain ⟨g, o, rfl, hgb, hc, he⟩ := h.at_ hlt
        generalize L.getD k 0 = x at hc he
        have hs := rightGo_succ he
        have hb := rightL_bad he
        by_cases h1 : x < -1
        · have hv := Lib.hid (hb (.inl h1))
          clear hgo hs hb
          go_wp2
          go_ret
          exact ⟨by rw [hv.out]; rfl, rfl⟩
        · by_cases h2 : (k : Int) ≤ x
          · have hv := Lib.hid (hb (.inr h2))
            clear hgo hs hb
            go_wp2
            go_ret
            exact ⟨by rw [hv.out]; rfl, rfl⟩
          · clear hb
            go_wp2
            go_round
            case rel => exact ⟨k + 1, by omega, by go_num, hs.2 ⟨hg, by omega, by omega⟩⟩
            case measure => simp [intOf]; omega
      · obtain rfl : k = n := by omega
        have hv := Lib.hid (hgo.2 hg)
        clear hgo
        go_wp2
        go_ret
        exact ⟨by rw [hv.out]; rfl, rfl⟩
  · rw [rightL_long (by rw [h.1]; omega)]
    clear h
    go_enter Try.func26, Try.ntmps26
    go_wp2
    go_ret
    exact ⟨rfl, rfl⟩
theorem rfRight_c (A : Option Addr) (n c : Nat) (L : List Int) (w : World) (h : IL w w.heap.size A n c L) (hn : n ≤ 9223372036854775807) : Calls Try.prog 28 #[.slice A n c] w fun e w' => e = .returned (.bool (rightL L)) ∧ w = w' := by
  by_cases h8 : n ≤ 8
  · have hgo := rightL_go (L := L) (by rw [h.1]; exact h8)
    rw [h.1] at hgo
    go_enter Try.func28, Try.ntmps28
    go_wp2
    go_loop [3] (fun i => ∃ k : Nat, k ≤ n ∧ i = .int .i64 k ∧ rightGo L k) (fun i => n - (intOf i).toNat)
    case atStart => exact ⟨0, Nat.zero_le _, rfl, rightGo_zero _⟩
    case round =>
      obtain ⟨k, hk, rfl, hg⟩ := hrel
      by_cases hlt : k < n
      · obtain ⟨g, o, rfl, hgb, hc, he⟩ := h.at_ hlt
        generalize L.getD k 0 = x at hc he
        have hs := rightGo_succ he
        have hb := rightL_bad he
        by_cases h1 : x < -1
        · have hv := Lib.hid (hb (.inl h1))
          clear hgo hs hb
          go_wp2
          go_ret
          exact ⟨by rw [hv.out]; rfl, rfl⟩
        · by_cases h2 : (k : Int) ≤ x
          · have hv := Lib.hid (hb (.inr h2))
            clear hgo hs hb
            go_wp2
            go_ret
            exact ⟨by rw [hv.out]; rfl, rfl⟩
          · clear hb
            go_wp2
            go_round
            case rel => exact ⟨k + 1, by omega, by go_num, hs.2 ⟨hg, by omega, by omega⟩⟩
            case measure => simp [intOf]; omega
      · obtain rfl : k = n := by omega
        have hv := Lib.hid (hgo.2 hg)
        clear hgo
        go_wp2
        go_ret
        exact ⟨by rw [hv.out]; rfl, rfl⟩
  · rw [rightL_long (by rw [h.1]; omega)]
    clear h
    go_enter Try.func28, Try.ntmps28
    go_wp2
    go_ret
    exact ⟨rfl, rfl⟩
end Go.Proofs.Ytakofbkbbmpfeaa

namespace Go.Proofs.Ytakofbkbbmpfeaa
open Go.RowKit
def AllRel (L : List Int) (r : Nat) (u v : Value) : Prop :=
  ∃ (i a : Nat) (q : Int), i ≤ L.length ∧ q = (i : Int) - 1 ∧ v = .int .i64 q ∧ u = .int .u64 (a : Int) ∧ AllC L r i a
theorem and_ne (a k : Nat) {p : Int} (ha : a < 18446744073709551616) (hk : k < 64) (hp : p = ((bN k : Nat) : Int)) (β : Bool) (hβ : a.testBit k = β) : (bits .and .u64 (a : Int) p != 0) = β := by
  rw [hp, bN_of hk, and_bits ha (pow64 hk) rfl rfl]
  have h := bit_and a k
  rw [hβ] at h
  cases β
  · rw [h.2 rfl]; rfl
  · have : a &&& 2 ^ k ≠ 0 := fun g => by have := h.1 g; cases this
    simp only [bne_iff_ne, ne_eq]
    omega
theorem orBit (a k : Nat) {p : Int} (ha : a < 18446744073709551616) (hk : k < 64) (hp : p = ((bN k : Nat) : Int)) : bits .or .u64 (a : Int) p = ((a ||| 2 ^ k : Nat) : Int) := by
  rw [hp, bN_of hk, or_bits ha (pow64 hk) rfl rfl]
set_option maxRecDepth 100000 in
set_option maxHeartbeats 1600000 in
theorem roAll_c (A : Option Addr) (n c : Nat) (L : List Int) (r : Nat) (x : Int) (w : World) (h : IL w w.heap.size A n c L) (hn : n ≤ 9223372036854775807) (hx : x = (r : Int)) (hr : r < 18446744073709551616) :
    Calls Try.prog 58 #[.slice A n c, .int .u64 x] w fun e w' => e = .returned (.int .u64 ((allV L r : Nat) : Int)) ∧ w = w' := by
  subst hx
  have HR := Lib.hid (roRight_c A n c L w h hn)
  cases hR : rightL L
  · rw [hR] at HR
    rw [allV_wrong hR]
    clear h
    go_enter Try.func58, Try.ntmps58
    go_wp2_with fail
    (with_reducible refine HR.out.mono ?_)
    rintro e w' ⟨rfl, rfl⟩
    go_wp2
    go_ret
    exact ⟨rfl, rfl⟩
  · rw [hR] at HR
    rw [allV_right hR]
    have hRR := rightL_iff.1 hR
    have h8 := hRR.1
    rw [h.1] at h8
    obtain ⟨V, hV⟩ : ∃ V, allN L r = V := ⟨_, rfl⟩
    rw [hV]
    obtain ⟨a0, ha0⟩ : ∃ a0, r &&& (2 ^ L.length - 1) = a0 := ⟨_, rfl⟩
    have I0 := allC_start hRR r
    rw [ha0] at I0
    obtain ⟨p, hp, hp1, hp2⟩ : ∃ p : Int, ((bN n : Nat) : Int) = p ∧ 1 ≤ p ∧ p ≤ 256 := by
      refine ⟨_, rfl, ?_, ?_⟩ <;> rw [bN_of (by omega)]
      · have := Nat.two_pow_pos n
        omega
      · have : 2 ^ n ≤ 2 ^ 8 := Nat.pow_le_pow_right (by decide) h8
        have e : (2 : Nat) ^ 8 = 256 := rfl
        omega
    have hM : bits .and .u64 (r : Int) (p - 1) = ((a0 : Nat) : Int) := by
      rw [← ha0, h.1, ← hp, bN_of (by omega)]
      have hpos := Nat.two_pow_pos n
      exact and_bits hr (b := 2 ^ n - 1) (by have := pow64 (k := n) (by omega); omega) rfl (by omega)
    have RB := Lib.hid (fun w' => by have h := roBit_c n (n : Int) w' rfl (by omega); rw [hp] at h; exact h)
    have HI := Lib.hid I0
    have HN := Lib.hid hV
    have HRR := Lib.hid hRR
    have HL := Lib.hid h
    clear I0 hV hRR hR h hp
    go_enter Try.func58, Try.ntmps58
    go_wp2_with fail
    (with_reducible refine HR.out.mono ?_)
    rintro e w' ⟨rfl, rfl⟩
    go_wp2_with fail
    (with_reducible refine (RB.out _).mono ?_)
    rintro e w' ⟨rfl, rfl⟩
    go_wp2
    clear RB HR hM hp1 hp2
    go_loop [5, 6] (fun u v => AllRel L r u v) (fun _ v => (intOf v + 1).toNat)
    case atStart => exact ⟨n, a0, _, by rw [HL.out.1]; omega, rfl, by go_num, rfl, by have := HI.out; rwa [HL.out.1] at this⟩
    case round =>
      obtain ⟨i, a, q, hi, hq, rfl, rfl, hI⟩ := hrel
      rw [HL.out.1] at hi
      cases i with
      | zero =>
        obtain rfl : q = -1 := by omega
        have HV := Lib.hid ((allC_end HRR.out hI).trans HN.out)
        clear hI hq
        go_wp2
        go_ret
        exact ⟨by rw [← HV.out]; rfl, rfl⟩
      | succ i =>
        obtain rfl : q = (i : Int) := by omega
        obtain ⟨g, o, rfl, hgb, hc, he⟩ := HL.out.at_ (k := i) (by omega)
        obtain ⟨y, hy⟩ : ∃ y, L.getD i 0 = y := ⟨_, rfl⟩
        rw [hy] at hc he
        have hlt := allC_lt HRR.out hI
        have hb1 := (HRR.out.2 i y he).1
        have hb2 := (HRR.out.2 i y he).2
        obtain ⟨p, hp⟩ : ∃ p : Int, ((bN i : Nat) : Int) = p := ⟨_, rfl⟩
        have RB := Lib.hid (fun w' => by have h := roBit_c i (i : Int) w' rfl (by omega); rw [hp] at h; exact h)
        cases ht : a.testBit i
        · have hN := and_ne a i (by omega) (by omega) hp.symm false ht
          have HI2 := Lib.hid (allC_skip HRR.out hI (.inl ht))
          clear hI hp hy he ht hq
          go_wp2_with fail
          (with_reducible refine (RB.out _).mono ?_)
          rintro e w' ⟨rfl, rfl⟩
          go_wp2
          go_round
          case rel => exact ⟨i, a, _, by rw [HL.out.1]; omega, rfl, by go_num, rfl, HI2.out⟩
          case measure => simp [intOf]
        · have hN := and_ne a i (by omega) (by omega) hp.symm true ht
          by_cases hy1 : y = -1
          · subst hy1
            have HI2 := Lib.hid (allC_skip HRR.out hI (.inr he))
            clear hI hp hy he ht hq
            go_wp2_with fail
            (with_reducible refine (RB.out _).mono ?_)
            rintro e w' ⟨rfl, rfl⟩
            go_wp2
            go_round
            case rel => exact ⟨i, a, _, by rw [HL.out.1]; omega, rfl, by go_num, rfl, HI2.out⟩
            case measure => simp [intOf]
          · obtain ⟨k, rfl⟩ : ∃ k : Nat, y = (k : Int) := ⟨y.toNat, by omega⟩
            obtain ⟨p2, hp2⟩ : ∃ p2 : Int, ((bN k : Nat) : Int) = p2 := ⟨_, rfl⟩
            have RB2 := Lib.hid (fun w' => by have h := roBit_c k (k : Int) w' rfl (by omega); rw [hp2] at h; exact h)
            have hO := orBit a k (by omega) (by omega) hp2.symm
            have HI2 := Lib.hid (allC_step HRR.out hI ht he)
            clear hI hp hp2 hy he ht hq
            go_wp2_with fail
            (with_reducible refine (RB.out _).mono ?_)
            rintro e w' ⟨rfl, rfl⟩
            go_wp2_with fail
            (with_reducible refine (RB2.out _).mono ?_)
            rintro e w' ⟨rfl, rfl⟩
            go_wp2
            go_round
            case rel => exact ⟨i, _, _, by rw [HL.out.1]; omega, rfl, by go_num, rfl, HI2.out⟩
            case measure => simp [intOf]
end Go.Proofs.Ytakofbkbbmpfeaa

namespace Go.Proofs.Ytakofbkbbmpfeaa
open Go.RowKit
theorem shl_few {k : Nat} (hk : k < 64) : IntKind.u64.wrap (2 ^ k) = ((bN k : Nat) : Int) := by
  have h := shl_one k (by omega)
  rw [wrapN (by omega), Int.toNat_natCast, Nat.min_eq_left (by omega)] at h
  exact h
theorem hasV_no {L : List Int} {r : Nat} {k : Int} (h : k < 0 ∨ (L.length : Int) ≤ k) : hasV L r k = false := by
  unfold hasV
  rcases h with h | h
  · rw [decide_eq_false (by omega), Bool.false_and]
  · rw [Bool.and_eq_false_iff]
    refine .inr ?_
    rw [Bool.eq_false_iff]
    intro g
    have := allV_lt_len L r _ g
    omega
theorem hasV_nat (L : List Int) (r k : Nat) : hasV L r (k : Int) = (allV L r).testBit k := by
  unfold hasV
  rw [decide_eq_true (by omega), Bool.true_and, Int.toNat_natCast]
theorem test_high {a k : Nat} (ha : a < 256) (hk : 8 ≤ k) : a.testBit k = false := by
  refine Nat.testBit_lt_two_pow ?_
  have : 2 ^ 8 ≤ 2 ^ k := Nat.pow_le_pow_right (by decide) hk
  have e : (2 : Nat) ^ 8 = 256 := rfl
  omega
theorem and_any (a k : Nat) {p : Int} (ha : a < 256) (hp : p = ((bN k : Nat) : Int)) (β : Bool) (hβ : a.testBit k = β) : (bits .and .u64 (a : Int) p != 0) = β := by
  rcases Nat.lt_or_ge k 64 with h | h
  · exact and_ne a k (by omega) h hp β hβ
  · rw [test_high ha (by omega)] at hβ
    subst hβ
    rw [hp, and_bits (by omega) (bN_lt k) rfl rfl, show bN k = 0 from if_neg (by omega), Nat.and_zero]
    rfl
set_option maxRecDepth 100000 in
set_option maxHeartbeats 1600000 in
theorem roHas_c (A : Option Addr) (n c : Nat) (L : List Int) (r : Nat) (x k : Int) (w : World) (h : IL w w.heap.size A n c L) (hn : n ≤ 9223372036854775807) (hx : x = (r : Int)) (hr : r < 18446744073709551616) (hk : k < 9223372036854775808) :
    Calls Try.prog 49 #[.slice A n c, .int .u64 x, .int .i64 k] w fun e w' => e = .returned (.bool (hasV L r k)) ∧ w = w' := by
  subst hx
  have HA := Lib.hid (roAll_c A n c L r (r : Int) w h hn rfl hr)
  have hl := h.1
  clear h
  by_cases h0 : 0 ≤ k
  · by_cases h1 : k < (n : Int)
    · obtain ⟨m, rfl⟩ : ∃ m : Nat, k = (m : Int) := ⟨k.toNat, by omega⟩
      rw [hasV_nat]
      have hlt := allV_lt L r
      obtain ⟨a, ha⟩ : ∃ a, allV L r = a := ⟨_, rfl⟩
      rw [ha] at HA hlt ⊢
      obtain ⟨β, hβ⟩ : ∃ β, a.testBit m = β := ⟨_, rfl⟩
      rw [hβ]
      obtain ⟨p, hp⟩ : ∃ p : Int, ((bN m : Nat) : Int) = p := ⟨_, rfl⟩
      have RB := Lib.hid (fun w' => by have h := roBit_c m (m : Int) w' rfl (by omega); rw [hp] at h; exact h)
      have hN := and_any a m hlt hp.symm β hβ
      clear hp hβ ha
      go_enter Try.func49, Try.ntmps49
      go_wp2_with fail
      (with_reducible refine HA.out.mono ?_)
      rintro e w' ⟨rfl, rfl⟩
      go_wp2_with fail
      (with_reducible refine (RB.out _).mono ?_)
      rintro e w' ⟨rfl, rfl⟩
      go_wp2
      go_ret
      exact ⟨rfl, rfl⟩
    · rw [hasV_no (.inr (by omega))]
      clear HA
      go_enter Try.func49, Try.ntmps49
      go_wp2
      go_ret
      exact ⟨rfl, rfl⟩
  · rw [hasV_no (.inl (by omega))]
    clear HA
    go_enter Try.func49, Try.ntmps49
    go_wp2
    go_ret
    exact ⟨rfl, rfl⟩
theorem has_v (n : Nat) (x k : Int) (β : Bool) (w : World) (hx : x = (n : Int)) (hβ : (decide (0 ≤ k) && (decide (k < 64) && n.testBit k.toNat)) = β) : Calls Try.prog 38 #[.int .u64 x, .int .i64 k] w fun e w' => e = .returned (.bool β) ∧ w = w' := by
  by_cases h0 : 0 ≤ k
  · by_cases h1 : k < 64
    · obtain ⟨m, rfl⟩ : ∃ m : Nat, k = (m : Int) := ⟨k.toNat, by omega⟩
      rw [decide_eq_true h0, decide_eq_true h1, Int.toNat_natCast, Bool.true_and, Bool.true_and] at hβ
      subst hβ
      exact has_c n m x (m : Int) w hx rfl (by omega)
    · rw [decide_eq_false h1, Bool.false_and, Bool.and_false] at hβ
      subst hβ
      go_enter Try.func38, Try.ntmps38
      go_wp2
      go_ret
      exact ⟨rfl, rfl⟩
  · rw [decide_eq_false h0, Bool.false_and] at hβ
    subst hβ
    go_enter Try.func38, Try.ntmps38
    go_wp2
    go_ret
    exact ⟨rfl, rfl⟩
theorem allI_lt {L : List Int} (h : RoleR L) {r i a : Nat} (I : AllI L r i a) : a < 256 := by
  have e : (2 : Nat) ^ 8 = 256 := rfl
  rw [← e]
  refine Nat.lt_pow_two_of_testBit _ fun m hm => ?_
  rw [Bool.eq_false_iff]
  intro g
  have h8 := h.1
  rcases (I m).1 g with ⟨_, h2⟩ | ⟨j, _, _, h3⟩
  · have := h2.lt h
    omega
  · have := h.lt h3
    omega
/-- The document's reckoning, a step. -/
def AllD (L : List Int) (r i a : Nat) : Prop := allGo L r i a = allN L r ∧ AllI L r i a
theorem allD_start {L : List Int} (h : RoleR L) (r : Nat) : AllD L r L.length 0 := ⟨rfl, allI_start h r⟩
theorem allD_end {L : List Int} {r a : Nat} (h : AllD L r 0 a) : a = allN L r := h.1
theorem allD_no {L : List Int} (h : RoleR L) {r i a : Nat} (hi : i < L.length) (I : AllD L r (i + 1) a) (hb : (r.testBit i || a.testBit i) = false) : AllD L r i a := by
  have h2 := allI_step h hi I.2
  have h1 := I.1
  rw [hb] at h2
  rw [allGo, hb] at h1
  exact ⟨h1, h2⟩
theorem allD_root {L : List Int} (h : RoleR L) {r i a : Nat} {y : Int} (hi : i < L.length) (I : AllD L r (i + 1) a) (hb : (r.testBit i || a.testBit i) = true) (hy : L[i]? = some y) (h0 : ¬ 0 ≤ y) : AllD L r i (a ||| 2 ^ i) := by
  have h2 := allI_step h hi I.2
  have h1 := I.1
  have e : L.getD i (-1) = y := by rw [List.getD_eq_getElem?_getD, hy]; rfl
  rw [hb, if_pos rfl, e, if_neg h0] at h2
  rw [allGo, hb, if_pos rfl, e, if_neg h0] at h1
  exact ⟨h1, h2⟩
theorem allD_up {L : List Int} (h : RoleR L) {r i a k : Nat} (hi : i < L.length) (I : AllD L r (i + 1) a) (hb : (r.testBit i || a.testBit i) = true) (hy : L[i]? = some (k : Int)) : AllD L r i (a ||| 2 ^ i ||| 2 ^ k) := by
  have h2 := allI_step h hi I.2
  have h1 := I.1
  have e : L.getD i (-1) = (k : Int) := by rw [List.getD_eq_getElem?_getD, hy]; rfl
  rw [hb, if_pos rfl, e, if_pos (by omega), Int.toNat_natCast] at h2
  rw [allGo, hb, if_pos rfl, e, if_pos (by omega), Int.toNat_natCast] at h1
  exact ⟨h1, h2⟩
def AllRelD (L : List Int) (r : Nat) (u v : Value) : Prop :=
  ∃ (i a : Nat) (q : Int), i ≤ L.length ∧ q = (i : Int) - 1 ∧ v = .int .i64 q ∧ u = .int .u64 (a : Int) ∧ AllD L r i a
set_option maxRecDepth 100000 in
set_option maxHeartbeats 1600000 in
theorem rfAll_c (A : Option Addr) (n c : Nat) (L : List Int) (r : Nat) (x : Int) (w : World) (h : IL w w.heap.size A n c L) (hn : n ≤ 9223372036854775807) (hx : x = (r : Int)) :
    Calls Try.prog 50 #[.slice A n c, .int .u64 x] w fun e w' => e = .returned (.int .u64 ((allV L r : Nat) : Int)) ∧ w = w' := by
  subst hx
  have HR := Lib.hid (rfRight_c A n c L w h hn)
  cases hR : rightL L
  · rw [hR] at HR
    rw [allV_wrong hR]
    clear h
    go_enter Try.func50, Try.ntmps50
    go_wp2_with fail
    (with_reducible refine HR.out.mono ?_)
    rintro e w' ⟨rfl, rfl⟩
    go_wp2
    go_ret
    exact ⟨rfl, rfl⟩
  · rw [hR] at HR
    rw [allV_right hR]
    have hRR := rightL_iff.1 hR
    have h8 := hRR.1
    rw [h.1] at h8
    obtain ⟨V, hV⟩ : ∃ V, allN L r = V := ⟨_, rfl⟩
    rw [hV]
    have HN := Lib.hid hV
    have HRR := Lib.hid hRR
    have HL := Lib.hid h
    clear hV hRR hR h
    go_enter Try.func50, Try.ntmps50
    go_wp2_with fail
    (with_reducible refine HR.out.mono ?_)
    rintro e w' ⟨rfl, rfl⟩
    go_wp2
    clear HR
    go_loop [5, 6] (fun u v => AllRelD L r u v) (fun _ v => (intOf v + 1).toNat)
    case atStart => exact ⟨n, 0, _, by rw [HL.out.1]; omega, rfl, by go_num, rfl, by have := allD_start HRR.out r; rwa [HL.out.1] at this⟩
    case round =>
      obtain ⟨i, a, q, hi, hq, rfl, rfl, hI⟩ := hrel
      have hl := HL.out.1
      rw [hl] at hi
      cases i with
      | zero =>
        obtain rfl : q = -1 := by omega
        have HV := Lib.hid ((allD_end hI).trans HN.out)
        clear hI hq
        go_wp2
        go_ret
        exact ⟨by rw [← HV.out]; rfl, rfl⟩
      | succ i =>
        obtain rfl : q = (i : Int) := by omega
        obtain ⟨g, o, rfl, hgb, hc, he⟩ := HL.out.at_ (k := i) (by omega)
        obtain ⟨y, hy⟩ : ∃ y, L.getD i 0 = y := ⟨_, rfl⟩
        rw [hy] at hc he
        have hlt := allI_lt HRR.out hI.2
        have hb1 := (HRR.out.2 i y he).1
        have hb2 := (HRR.out.2 i y he).2
        have hs := shl_few (k := i) (by omega)
        obtain ⟨p, hp⟩ : ∃ p : Int, ((bN i : Nat) : Int) = p := ⟨_, rfl⟩
        have hO := orBit a i (by omega) (by omega) hp.symm
        have hlt2 : a ||| 2 ^ i < 256 := Nat.or_lt_two_pow (n := 8) hlt (Nat.pow_lt_pow_right (by decide) (by omega))
        rw [hp] at hs
        obtain ⟨β1, hβ1⟩ : ∃ β, r.testBit i = β := ⟨_, rfl⟩
        obtain ⟨β2, hβ2⟩ : ∃ β, a.testBit i = β := ⟨_, rfl⟩
        have R1 := Lib.hid (fun w' => by have h := has_c r i (r : Int) (i : Int) w' rfl rfl (by omega); rw [hβ1] at h; exact h)
        have R2 := Lib.hid (fun w' => by have h := has_c a i (a : Int) (i : Int) w' rfl rfl (by omega); rw [hβ2] at h; exact h)
        cases β1
        · cases β2
          · have HI2 := Lib.hid (allD_no HRR.out (by omega) hI (by rw [hβ1, hβ2]; rfl))
            clear hI hp hy he hβ1 hβ2 hq hlt hlt2 hO hs
            go_wp2_with fail
            (with_reducible refine (R1.out _).mono ?_)
            rintro e w' ⟨rfl, rfl⟩
            go_wp2_with fail
            (with_reducible refine (R2.out _).mono ?_)
            rintro e w' ⟨rfl, rfl⟩
            go_wp2
            go_round
            case rel => exact ⟨i, a, _, by rw [HL.out.1]; omega, rfl, by go_num, rfl, HI2.out⟩
            case measure => simp [intOf]
          · skip
            have hbb : (r.testBit i || a.testBit i) = true := by rw [hβ1, hβ2]; rfl
            by_cases hy0 : 0 ≤ y
            · obtain ⟨k, rfl⟩ : ∃ k : Nat, y = (k : Int) := ⟨y.toNat, by omega⟩
              have HI2 := Lib.hid (allD_up HRR.out (by omega) hI hbb he)
              have hs2 := shl_few (k := k) (by omega)
              obtain ⟨p2, hp2⟩ : ∃ p2 : Int, ((bN k : Nat) : Int) = p2 := ⟨_, rfl⟩
              rw [hp2] at hs2
              have hO2 := orBit (a ||| 2 ^ i) k (by omega) (by omega) hp2.symm
              clear hI hp hp2 hy he hbb hβ1 hβ2 hq hlt hlt2
              go_wp2_with fail
              (with_reducible refine (R1.out _).mono ?_)
              rintro e w' ⟨rfl, rfl⟩
              go_wp2_with fail
              (with_reducible refine (R2.out _).mono ?_)
              rintro e w' ⟨rfl, rfl⟩
              go_wp2
              go_round
              case rel => exact ⟨i, _, _, by rw [HL.out.1]; omega, rfl, by go_num, rfl, HI2.out⟩
              case measure => simp [intOf]
            · have HI2 := Lib.hid (allD_root HRR.out (by omega) hI hbb he hy0)
              clear hI hp hy he hbb hβ1 hβ2 hq hlt hlt2
              go_wp2_with fail
              (with_reducible refine (R1.out _).mono ?_)
              rintro e w' ⟨rfl, rfl⟩
              go_wp2_with fail
              (with_reducible refine (R2.out _).mono ?_)
              rintro e w' ⟨rfl, rfl⟩
              go_wp2
              go_round
              case rel => exact ⟨i, _, _, by rw [HL.out.1]; omega, rfl, by go_num, rfl, HI2.out⟩
              case measure => simp [intOf]
        · skip
          have hbb : (r.testBit i || a.testBit i) = true := by rw [hβ1, hβ2]; rfl
          by_cases hy0 : 0 ≤ y
          · obtain ⟨k, rfl⟩ : ∃ k : Nat, y = (k : Int) := ⟨y.toNat, by omega⟩
            have HI2 := Lib.hid (allD_up HRR.out (by omega) hI hbb he)
            have hs2 := shl_few (k := k) (by omega)
            obtain ⟨p2, hp2⟩ : ∃ p2 : Int, ((bN k : Nat) : Int) = p2 := ⟨_, rfl⟩
            rw [hp2] at hs2
            have hO2 := orBit (a ||| 2 ^ i) k (by omega) (by omega) hp2.symm
            clear hI hp hp2 hy he hbb hβ1 hβ2 hq hlt hlt2
            go_wp2_with fail
            (with_reducible refine (R1.out _).mono ?_)
            rintro e w' ⟨rfl, rfl⟩
            go_wp2
            go_round
            case rel => exact ⟨i, _, _, by rw [HL.out.1]; omega, rfl, by go_num, rfl, HI2.out⟩
            case measure => simp [intOf]
          · have HI2 := Lib.hid (allD_root HRR.out (by omega) hI hbb he hy0)
            clear hI hp hy he hbb hβ1 hβ2 hq hlt hlt2
            go_wp2_with fail
            (with_reducible refine (R1.out _).mono ?_)
            rintro e w' ⟨rfl, rfl⟩
            go_wp2
            go_round
            case rel => exact ⟨i, _, _, by rw [HL.out.1]; omega, rfl, by go_num, rfl, HI2.out⟩
            case measure => simp [intOf]
theorem rfHas_c (A : Option Addr) (n c : Nat) (L : List Int) (r : Nat) (x k : Int) (w : World) (h : IL w w.heap.size A n c L) (hn : n ≤ 9223372036854775807) (hx : x = (r : Int)) :
    Calls Try.prog 33 #[.slice A n c, .int .u64 x, .int .i64 k] w fun e w' => e = .returned (.bool (hasV L r k)) ∧ w = w' := by
  subst hx
  have HA := Lib.hid (rfAll_c A n c L r (r : Int) w h hn rfl)
  have hβ : (decide (0 ≤ k) && (decide (k < 64) && (allV L r).testBit k.toNat)) = hasV L r k := by
    unfold hasV
    by_cases h1 : k < 64
    · rw [decide_eq_true h1, Bool.true_and]
    · rw [test_high (allV_lt L r) (by omega), Bool.and_false]
  obtain ⟨a, ha⟩ : ∃ a, allV L r = a := ⟨_, rfl⟩
  obtain ⟨β, hv⟩ : ∃ β, hasV L r k = β := ⟨_, rfl⟩
  rw [ha] at HA
  rw [ha, hv] at hβ
  rw [hv]
  have RH := Lib.hid (fun w' => has_v a (a : Int) k β w' rfl hβ)
  clear h ha hβ hv
  go_enter Try.func33, Try.ntmps33
  go_wp2_with fail
  (with_reducible refine HA.out.mono ?_)
  rintro e w' ⟨rfl, rfl⟩
  go_wp2_with fail
  (with_reducible refine (RH.out _).mono ?_)
  rintro e w' ⟨rfl, rfl⟩
  go_wp2
  go_ret
  exact ⟨rfl, rfl⟩
end Go.Proofs.Ytakofbkbbmpfeaa

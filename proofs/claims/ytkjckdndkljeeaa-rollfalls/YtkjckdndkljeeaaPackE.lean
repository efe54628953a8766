/- Package pack: first. -/
import Derived.Test.YtkjckdndkljeeaaPackD
namespace Go.Proofs.Ytkjckdndkljeeaa
open Go.RowKit
def FstRel (n : Nat) (l : List UInt8) (x i : Value) : Prop :=
  ∃ k a : Nat, k ≤ n ∧ k ≤ 9 ∧ i = .int .i64 (k : Int) ∧ x = .int .u64 (a : Int) ∧ a < 128 ^ k ∧ rd 0 0 l = rd k a (l.drop k)
theorem andNot_fin : ∀ x : Fin 256, bits .andNot .u8 (x.val : Int) 128 = ((x.val % 128 : Nat) : Int) := by decide +kernel
theorem pow7 (k : Nat) : (2 : Nat) ^ (7 * k) = 128 ^ k := by rw [Nat.pow_mul]
theorem or_step {a k x : Nat} (ha : a < 128 ^ k) (hk : k ≤ 9) (hx : x < 256) (h9 : k = 9 → x ≤ 1) :
    bits .or .u64 (a : Int) (IntKind.u64.wrap (IntKind.u64.wrap (bits .andNot .u8 (x : Int) 128) * 2 ^ (7 * k))) = ((a + x % 128 * 128 ^ k : Nat) : Int) := by
  have ha' : a < 18446744073709551616 := by
    have h1 := Nat.pow_le_pow_right (n := 128) (by decide) hk
    rw [pow9] at h1
    omega
  have hy : x % 128 * 128 ^ k < 18446744073709551616 := by
    rcases Nat.lt_or_ge k 9 with h | h
    · have h1 := pow_le9 (show k ≤ 8 by omega)
      have h2 := Nat.mul_le_mul_right (128 ^ k) (show x % 128 ≤ 127 by omega)
      omega
    · obtain rfl : k = 9 := by omega
      have := h9 rfl
      have h2 := Nat.mul_le_mul_right (128 ^ 9) (show x % 128 ≤ 1 by omega)
      rw [pow9] at h2 ⊢
      omega
  have e1 : bits .andNot .u8 (x : Int) 128 = ((x % 128 : Nat) : Int) := andNot_fin ⟨x, hx⟩
  have e2 : IntKind.u64.wrap ((x % 128 : Nat) : Int) = ((x % 128 : Nat) : Int) := by rw [IntKind.wrap_u64]; omega
  have e3 : ((x % 128 : Nat) : Int) * 2 ^ (7 * k) = ((x % 128 * 128 ^ k : Nat) : Int) := by
    rw [Int.natCast_mul, ← pow7, Int.natCast_pow]
    rfl
  rw [e1, e2, e3]
  generalize hY : x % 128 * 128 ^ k = y at *
  have e4 : IntKind.u64.wrap (y : Int) = (y : Int) := by rw [IntKind.wrap_u64]; omega
  rw [e4, bits_or_u64_nat _ _ (by omega) (by omega)]
  congr 1
  have h := Nat.two_pow_add_eq_or_of_lt (i := 7 * k) (by rw [pow7]; exact ha) (x % 128)
  rw [pow7, Nat.mul_comm, hY] at h
  rw [Nat.or_comm, ← h, Nat.add_comm]
theorem or_lt {a k x : Nat} (ha : a < 128 ^ k) : a + x % 128 * 128 ^ k < 128 ^ (k + 1) := by
  have h2 := Nat.mul_le_mul_right (128 ^ k) (show x % 128 ≤ 127 by omega)
  rw [Nat.pow_succ]
  omega
theorem first_none {l : List UInt8} (h : rd 0 0 l = none) : (0 : Int) = firstN l ∧ (0 : Int) = (firstS l : Int) := by
  unfold firstN firstS
  rw [h]
  exact ⟨rfl, rfl⟩
theorem first_some {l : List UInt8} {u s : Nat} (h : rd 0 0 l = some (u, s)) : zag u = firstN l ∧ s = firstS l := by
  unfold firstN firstS
  rw [h]
  exact ⟨rfl, rfl⟩
theorem ret_two {k k' : IntKind} {a b a' b' : Int} (h : a = a') (h' : b = b') : Ending.returned (.tuple #[.int k a, .int k' b]) = .returned (.tuple #[.int k a', .int k' b']) := by rw [h, h']
theorem drop_at {l : List UInt8} {k x : Nat} (h : k < l.length) (hx : (l[k]'h).toNat = x) : ∃ t, ∃ y : UInt8, y.toNat = x ∧ l.drop k = y :: t ∧ l.drop (k + 1) = t :=
  ⟨_, l[k], hx, List.drop_eq_getElem_cons h, rfl⟩
section
variable {l : List UInt8} {k a x : Nat} (h : k < l.length) (hx : (l[k]'h).toNat = x) (he : rd 0 0 l = rd k a (l.drop k))
include h hx he
theorem rd_none9 (h9 : k = 9 ∧ 1 < x) : rd 0 0 l = none := by
  obtain ⟨t, y, rfl, ed, _⟩ := drop_at h hx
  rw [he, ed]
  simp only [rd, if_pos h9]
theorem rd_none0 (h9 : ¬ (k = 9 ∧ 1 < x)) (h1 : x < 128) (hz : x = 0 ∧ 0 < k) : rd 0 0 l = none := by
  obtain ⟨t, y, rfl, ed, _⟩ := drop_at h hx
  rw [he, ed]
  simp only [rd, if_neg h9, if_pos h1, if_pos hz]
theorem rd_some_ (h9 : ¬ (k = 9 ∧ 1 < x)) (h1 : x < 128) (hz : ¬ (x = 0 ∧ 0 < k)) : rd 0 0 l = some (a + x % 128 * 128 ^ k, k + 1) := by
  obtain ⟨t, y, rfl, ed, _⟩ := drop_at h hx
  rw [he, ed]
  simp only [rd, if_neg h9, if_pos h1, if_neg hz]
theorem rd_goes (h9 : ¬ (k = 9 ∧ 1 < x)) (h1 : ¬ x < 128) : rd 0 0 l = rd (k + 1) (a + x % 128 * 128 ^ k) (l.drop (k + 1)) := by
  obtain ⟨t, y, rfl, ed, e2⟩ := drop_at h hx
  rw [he, ed, e2]
  simp only [rd, if_neg h9, if_neg h1]
end
theorem rd_end {l : List UInt8} {k a : Nat} (he : rd 0 0 l = rd k a (l.drop k)) (h : l.length ≤ k) : rd 0 0 l = none := by
  rw [he, List.drop_eq_nil_of_le h]
  rfl
theorem val_of {a k x : Nat} (ha : a < 128 ^ k) (hk : k ≤ 9) (hx : x < 256) (h9 : k = 9 → x ≤ 1) : a + x % 128 * 128 ^ k < 18446744073709551616 := by
  rcases Nat.lt_or_ge k 9 with h | h
  · have h1 := pow_le9 (show k ≤ 8 by omega)
    have h2 := Nat.mul_le_mul_right (128 ^ k) (show x % 128 ≤ 127 by omega)
    omega
  · obtain rfl : k = 9 := by omega
    have := h9 rfl
    have h2 := Nat.mul_le_mul_right (128 ^ 9) (show x % 128 ≤ 1 by omega)
    rw [pow9] at h2 ha ⊢
    omega
set_option maxRecDepth 100000 in
set_option maxHeartbeats 800000 in
theorem first_c (A : Option Addr) (n c : Nat) (l : List UInt8) (w : World) (B : Nat) (hl : Bs w B A n c l) (hn : n ≤ 281474976710656) :
    Calls Try.prog 63 #[.slice A n c] w fun e w' => e = .returned (.tuple #[.int .i64 (firstN l), .int .i64 (firstS l : Int)]) ∧ w = w' := by
  have HL := Lib.hid hl
  clear hl
  go_enter Try.func63, Try.ntmps63
  go_wp2
  go_loop [4, 9] (fun x i => FstRel n l x i) (fun _ i => n - (intOf i).toNat)
  case atStart => exact ⟨0, 0, by omega, by omega, rfl, rfl, by simp, by simp⟩
  case round =>
    obtain ⟨k, a, hk, hk9, rfl, rfl, ha, he⟩ := hrel
    have HE := Lib.hid he
    have HA := Lib.hid ha
    clear he ha
    by_cases hlt : k < n
    · obtain ⟨g, o, hkl, rfl, hg, hcell⟩ := HL.out.at_ hlt
      obtain ⟨x, hx⟩ : ∃ x : Nat, (l[k]'hkl).toNat = x := ⟨_, rfl⟩
      rw [hx] at hcell
      have hx256 : x < 256 := by rw [← hx]; exact u8_lt _
      have HX := Lib.hid hx
      clear hx
      by_cases c9 : k = 9 ∧ 1 < x
      · have hk1 : ((k : Int) == 9) = true := by simp; omega
        have hx1 : (1 : Int) < (x : Int) := by omega
        have HR := Lib.hid (first_none (rd_none9 hkl HX.out HE.out c9))
        clear c9
        go_wp2
        go_ret2
        exact ⟨ret_two HR.out.1 HR.out.2, rfl⟩
      · have H9 := Lib.hid c9
        by_cases c128 : x < 128
        · have hx1 : (x : Int) < 128 := by omega
          have HO := Lib.hid (or_step (x := x) HA.out hk9 hx256 (fun h => by omega))
          by_cases cz : x = 0 ∧ 0 < k
          · have HR := Lib.hid (first_none (rd_none0 hkl HX.out HE.out c9 c128 cz))
            obtain ⟨rfl, hk0⟩ := cz
            have hk0' : (0 : Int) < (k : Int) := by omega
            clear c9 c128
            go_wp2
            all_goals
              go_ret2
              exact ⟨ret_two HR.out.1 HR.out.2, rfl⟩
          · have HR := Lib.hid (first_some (rd_some_ hkl HX.out HE.out c9 c128 cz))
            have HV := Lib.hid (val_of (x := x) HA.out hk9 hx256 (fun h => by omega))
            by_cases ck : k = 9
            · have hk1 : ((k : Int) == 9) = true := by simp; omega
              have hx0 : (x : Int) ≤ 1 := by omega
              have hz : ((x : Int) == 0) = false := by simp; omega
              clear c9 c128 cz ck
              go_wp2_with fail
              rw [HO.out]
              refine (unfolded_c _ _ HV.out).mono ?_
              rintro e w' ⟨rfl, rfl⟩
              go_wp2
              go_ret2
              exact ⟨ret_two HR.out.1 (by have := HR.out.2; omega), rfl⟩
            · have hk1 : ((k : Int) == 9) = false := by simp; omega
              by_cases c0 : x = 0
              · have hz : ((x : Int) == 0) = true := by simp; omega
                have hk0 : (k : Int) ≤ 0 := by omega
                clear c9 c128 cz ck c0
                go_wp2_with fail
                rw [HO.out]
                refine (unfolded_c _ _ HV.out).mono ?_
                rintro e w' ⟨rfl, rfl⟩
                go_wp2
                go_ret2
                exact ⟨ret_two HR.out.1 (by have := HR.out.2; omega), rfl⟩
              · have hz : ((x : Int) == 0) = false := by simp; omega
                clear c9 c128 cz ck c0
                go_wp2_with fail
                rw [HO.out]
                refine (unfolded_c _ _ HV.out).mono ?_
                rintro e w' ⟨rfl, rfl⟩
                go_wp2
                go_ret2
                exact ⟨ret_two HR.out.1 (by have := HR.out.2; omega), rfl⟩
        · have hk8 : k ≤ 8 := by omega
          have hge : (128 : Int) ≤ (x : Int) := by omega
          have hne : ((k : Int) == 9) = false := by simp; omega
          have HO := Lib.hid (or_step (x := x) HA.out hk9 hx256 (fun h => by omega))
          have HR := Lib.hid (rd_goes hkl HX.out HE.out c9 c128)
          clear c9
          go_wp2
          go_round
          case rel => exact ⟨k + 1, _, by omega, by omega, by go_num, by rw [HO.out], or_lt HA.out, HR.out⟩
          case measure => simp [intOf]; omega
    · have HR := Lib.hid (first_none (rd_end HE.out (by have := HL.out.len; omega)))
      go_wp2
      go_ret2
      exact ⟨ret_two HR.out.1 HR.out.2, rfl⟩
end Go.Proofs.Ytkjckdndkljeeaa

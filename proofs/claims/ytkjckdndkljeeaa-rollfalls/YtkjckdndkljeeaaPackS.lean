/- pyxref4.ReadInt. -/
import Derived.Test.YtkjckdndkljeeaaPackR
namespace Go.Proofs.Ytkjckdndkljeeaa
open Go.RowKit
def RdI (w : World) (n : Nat) (l : List UInt8) (e : Ending) (w' : World) : Prop :=
  (firstS l = 0 ∧ e = .returned (.tuple #[.int .i64 0, .slice none 0 0, .int .i64 2]) ∧ w = w') ∨
  (firstS l ≠ 0 ∧ ∃ g c, e = .returned (.tuple #[.int .i64 (firstN l), .slice (some ⟨g, 0, none⟩) (n - firstS l) c, .int .i64 0]) ∧ Own w' w.heap.size g (n - firstS l) c (l.drop (firstS l)) ∧ Below w.heap.size w w')
def RefR (n : Nat) (l : List UInt8) (u p i : Value) : Prop :=
  ∃ k a b : Nat, i = .int .i64 (k : Int) ∧ u = .int .u64 (a : Int) ∧ p = .int .u64 (b : Int) ∧ ((k ≤ 9 ∧ k ≤ n ∧ b = 128 ^ k ∧ a < 128 ^ k ∧ rd 0 0 l = rd k a (l.drop k)) ∨ (k = 10 ∧ rd 0 0 l = none))
theorem ref_u {a b k x : Nat} (hb : b = 128 ^ k) (ha : a < 128 ^ k) (hk : k ≤ 9) (h9 : k = 9 → x % 128 ≤ 1) : IntKind.u64.wrap ((a : Int) + IntKind.u64.wrap ((x : Int) % 128 * (b : Int))) = ((a + x % 128 * 128 ^ k : Nat) : Int) ∧ a + x % 128 * 128 ^ k < 18446744073709551616 := by
  subst hb
  have hy : x % 128 * 128 ^ k ≤ 9223372036854775808 ∧ a + x % 128 * 128 ^ k < 18446744073709551616 := by
    rcases Nat.lt_or_ge k 9 with h | h
    · have h1 := pow_le9 (show k ≤ 8 by omega)
      have h2 := Nat.mul_le_mul_right (128 ^ k) (show x % 128 ≤ 127 by omega)
      omega
    · obtain rfl : k = 9 := by omega
      have h2 := Nat.mul_le_mul_right (128 ^ 9) (h9 rfl)
      rw [pow9] at h2 ha ⊢
      omega
  obtain ⟨h1, h2⟩ := hy
  have e : (x : Int) % 128 * ((128 ^ k : Nat) : Int) = ((x % 128 * 128 ^ k : Nat) : Int) := by rw [Int.natCast_mul]; rfl
  rw [e]
  generalize x % 128 * 128 ^ k = y at *
  refine ⟨?_, h2⟩
  rw [IntKind.wrap_u64, IntKind.wrap_u64]
  omega
theorem ref_b {b k : Nat} (hb : b = 128 ^ k) (hk : k ≤ 8) : IntKind.u64.wrap ((b : Int) * 128) = ((128 ^ (k + 1) : Nat) : Int) := by
  subst hb
  have h1 := pow_le9 hk
  have e : ((128 ^ (k + 1) : Nat) : Int) = ((128 ^ k : Nat) : Int) * 128 := by rw [Nat.pow_succ, Int.natCast_mul]; rfl
  rw [e]
  generalize 128 ^ k = y at *
  rw [IntKind.wrap_u64]
  omega
theorem ref_w (z : Int) : ∃ b : Nat, IntKind.u64.wrap z = (b : Int) := ⟨(IntKind.u64.wrap z).toNat, by rw [IntKind.wrap_u64]; omega⟩
theorem firstS_none {l : List UInt8} (h : rd 0 0 l = none) : firstS l = 0 := by unfold firstS; rw [h]
theorem rd_yes {w w' : World} {n n' s g c : Nat} {l : List UInt8} {x y : Int} {e : Ending} (h1 : firstN l = x) (h2 : firstS l = s) (hs : s ≠ 0) (hn : n' = n - s) (hy : y = x) (he : e = .returned (.tuple #[.int .i64 y, .slice (some ⟨g, 0, none⟩) n' c, .int .i64 0]))
    (ho : Own w' w.heap.size g n' c (l.drop s)) (hb : Below w.heap.size w w') : RdI w n l e w' := by
  subst hy hn h1 h2
  exact .inr ⟨hs, g, c, he, ho, hb⟩
set_option maxRecDepth 100000 in
set_option maxHeartbeats 3200000 in
theorem refRead_c (A : Option Addr) (n c : Nat) (l : List UInt8) (w : World) (hl : Bs w w.heap.size A n c l) (hn : n ≤ 140737488355328) :
    Calls Try.prog 60 #[.slice A n c] w (RdI w n l) := by
  obtain ⟨i0, hi, hz0, hz1, hz2⟩ := info_parts Try.i8
  have HL := Lib.hid hl
  clear hl
  go_enter Try.func60, Try.ntmps60
  go_wp2
  go_loop [5, 6, 7] (fun u p i => RefR n l u p i) (fun _ _ i => 10 - (intOf i).toNat)
  case atStart => exact ⟨0, 0, 1, rfl, rfl, rfl, .inl ⟨by omega, by omega, rfl, by simp, by simp⟩⟩
  case round =>
    obtain ⟨k, a, b, rfl, rfl, rfl, ⟨hk9, hkn, hb, ha, he⟩ | ⟨hk, he⟩⟩ := hrel
    · have HE := Lib.hid he
      have HA := Lib.hid ha
      have HBB := Lib.hid hb
      clear he ha hb
      have hk10 : (k : Int) < 10 := by omega
      by_cases hlt : k < n
      · obtain ⟨g, o, hkl, rfl, hg, hcell⟩ := HL.out.at_ hlt
        obtain ⟨x, hx⟩ : ∃ x : Nat, (l[k]'hkl).toNat = x := ⟨_, rfl⟩
        rw [hx] at hcell
        have hx256 : x < 256 := by rw [← hx]; exact u8_lt _
        have HX := Lib.hid hx
        clear hx
        by_cases c128 : x < 128
        · by_cases c9 : k = 9 ∧ 1 < x
          · have hx1 : (1 : Int) < (x : Int) % 128 := by omega
            have HR := Lib.hid (firstS_none (rd_none9 hkl HX.out HE.out c9))
            obtain ⟨rfl, _⟩ := c9
            go_wp2
            go_ret3
            exact .inl ⟨HR.out, rfl, rfl⟩
          · by_cases cz : x = 0 ∧ 0 < k
            · have HR := Lib.hid (firstS_none (rd_none0 hkl HX.out HE.out c9 c128 cz))
              obtain ⟨rfl, hk0⟩ := cz
              have hk0' : (0 : Int) < (k : Int) := by omega
              by_cases ck : k = 9
              · subst ck
                clear c9
                go_wp2
                go_ret3
                exact .inl ⟨HR.out, rfl, rfl⟩
              · have hk1 : ((k : Int) == 9) = false := by simp; omega
                clear c9 ck
                go_wp2
                go_ret3
                exact .inl ⟨HR.out, rfl, rfl⟩
            · have HSome := Lib.hid (first_some (rd_some_ hkl HX.out HE.out c9 c128 cz))
              have hx2 : (x : Int) < 128 := by omega
              have hnc := HL.out.room
              by_cases c0 : x = 0
              · obtain rfl : k = 0 := by omega
                obtain rfl : a = 0 := by have := HA.out; simp at this; omega
                obtain rfl : b = 1 := by have := HBB.out; simpa using this
                subst c0
                clear c9 cz
                simp only [Nat.add_zero] at hcell
                by_cases hc : c = 1
                · obtain rfl : n = 1 := by omega
                  have HC := HL.out.cut_yes (k := 1) (Nat.le_refl _) hc
                  rw [hc, Nat.sub_self] at HC
                  have HC := Lib.hid HC
                  subst hc
                  go_wp2_with (at_builtin; refine wpList_append_bs _ rfl (.tmp 58) (.tmp 62) _ rfl Try.u42 w.heap.size (.slice (some ⟨w.heap.size, 0, none⟩) 0 0) 0 [] rfl (own_zero w) w.heap.size (some ⟨g, o, none⟩) 0 0 (l.drop 1) rfl (HC.out.alloc (Nat.le_refl _) _) (by omega) (by simp) ?_; intro v1 w1 hown hgrow hnil)
                  go_ret3
                  rw [Nat.zero_add, List.nil_append] at hown
                  obtain ⟨g1, c1, rfl, hO⟩ := own_ne hown (hnil (by simp))
                  exact rd_yes HSome.out.1.symm HSome.out.2.symm (by omega) (by omega) rfl (by rfl) hO (((Below.refl _ _).alloc (Nat.le_refl _) _).grown hgrow (by simp) (fun k hk => by cases hk; exact Nat.le_refl _))
                · have HC := Lib.hid (show Bs w w.heap.size (some ⟨g, o + 1, none⟩) (n - 1) (c - 1) (l.drop 1) by simpa [Addr.add_lit] using HL.out.cut_no (k := 1) (by omega) hc)
                  have i1 : (1 : Int) ≤ (n : Int) := by omega
                  go_wp2_with (at_builtin; refine wpList_append_bs _ rfl (.tmp 58) (.tmp 62) _ rfl Try.u42 w.heap.size (.slice (some ⟨w.heap.size, 0, none⟩) 0 0) 0 [] rfl (own_zero w) w.heap.size (some ⟨g, o + 1, none⟩) (n - 1) (c - 1) (l.drop 1) rfl (HC.out.alloc (Nat.le_refl _) _) (by omega) (by simp) ?_; intro v1 w1 hown hgrow hnil)
                  go_ret3
                  rw [Nat.zero_add, List.nil_append] at hown
                  obtain ⟨g1, c1, rfl, hO⟩ := own_ne hown (hnil (by simp))
                  exact rd_yes HSome.out.1.symm HSome.out.2.symm (by omega) rfl rfl (by rfl) hO (((Below.refl _ _).alloc (Nat.le_refl _) _).grown hgrow (by simp) (fun k hk => by cases hk; exact Nat.le_refl _))
              · obtain ⟨hu, huL⟩ := ref_u (x := x) HBB.out HA.out hk9 (fun h => by omega)
                obtain ⟨U, hU⟩ : ∃ U, a + x % 128 * 128 ^ k = U := ⟨_, rfl⟩
                rw [hU] at hu huL HSome
                clear hU
                have huL' : (U : Int) ≤ 18446744073709551615 := by omega
                have hz : ((x : Int) % 128 == 0) = false := by simp; omega
                by_cases ck : k = 9
                · subst ck
                  have hx1 : ¬ (1 : Int) < (x : Int) % 128 := by omega
                  clear c9 cz
                  by_cases hodd : U % 2 = 1
                  · have hp : ((U : Int) % 2 == 1) = true := by simp; omega
                    have HV := Lib.hid (show -((U : Int) / 2) - 1 = zag U by unfold zag; rw [if_pos hodd]; omega)
                    clear hodd
                    by_cases hc : c = 9 + 1
                    · obtain rfl : n = 9 + 1 := by omega
                      have HC := HL.out.cut_yes (k := 9 + 1) (Nat.le_refl _) hc
                      rw [hc, Nat.sub_self] at HC
                      have HC := Lib.hid HC
                      subst hc
                      go_wp2_with (at_builtin; refine wpList_append_bs _ rfl (.tmp 58) (.tmp 62) _ rfl Try.u42 w.heap.size (.slice (some ⟨w.heap.size, 0, none⟩) 0 0) 0 [] rfl (own_zero w) w.heap.size (some ⟨g, o, none⟩) 0 0 (l.drop (9 + 1)) rfl (HC.out.alloc (Nat.le_refl _) _) (by omega) (by simp) ?_; intro v1 w1 hown hgrow hnil)
                      go_ret3
                      rw [Nat.zero_add, List.nil_append] at hown
                      obtain ⟨g1, c1, rfl, hO⟩ := own_ne hown (hnil (by simp))
                      exact rd_yes HSome.out.1.symm HSome.out.2.symm (by omega) (by omega) HV.out (by rfl) hO (((Below.refl _ _).alloc (Nat.le_refl _) _).grown hgrow (by simp) (fun k hk => by cases hk; exact Nat.le_refl _))
                    · have HC := Lib.hid (show Bs w w.heap.size (some ⟨g, o + (9 + 1), none⟩) (n - (9 + 1)) (c - (9 + 1)) (l.drop (9 + 1)) by simpa [Addr.add_lit] using HL.out.cut_no (k := 9 + 1) (by omega) hc)
                      have i1 : ((9 : Nat) : Int) + 1 ≤ (n : Int) := by omega
                      go_wp2_with (at_builtin; refine wpList_append_bs _ rfl (.tmp 58) (.tmp 62) _ rfl Try.u42 w.heap.size (.slice (some ⟨w.heap.size, 0, none⟩) 0 0) 0 [] rfl (own_zero w) w.heap.size (some ⟨g, o + (9 + 1), none⟩) (n - (9 + 1)) (c - (9 + 1)) (l.drop (9 + 1)) rfl (HC.out.alloc (Nat.le_refl _) _) (by omega) (by simp) ?_; intro v1 w1 hown hgrow hnil)
                      go_ret3
                      rw [Nat.zero_add, List.nil_append] at hown
                      obtain ⟨g1, c1, rfl, hO⟩ := own_ne hown (hnil (by simp))
                      exact rd_yes HSome.out.1.symm HSome.out.2.symm (by omega) rfl HV.out (by rfl) hO (((Below.refl _ _).alloc (Nat.le_refl _) _).grown hgrow (by simp) (fun k hk => by cases hk; exact Nat.le_refl _))
                  · have hp : ((U : Int) % 2 == 1) = false := by simp; omega
                    have HV := Lib.hid (show (U : Int) / 2 = zag U by unfold zag; rw [if_neg hodd]; omega)
                    clear hodd
                    by_cases hc : c = 9 + 1
                    · obtain rfl : n = 9 + 1 := by omega
                      have HC := HL.out.cut_yes (k := 9 + 1) (Nat.le_refl _) hc
                      rw [hc, Nat.sub_self] at HC
                      have HC := Lib.hid HC
                      subst hc
                      go_wp2_with (at_builtin; refine wpList_append_bs _ rfl (.tmp 58) (.tmp 62) _ rfl Try.u42 w.heap.size (.slice (some ⟨w.heap.size, 0, none⟩) 0 0) 0 [] rfl (own_zero w) w.heap.size (some ⟨g, o, none⟩) 0 0 (l.drop (9 + 1)) rfl (HC.out.alloc (Nat.le_refl _) _) (by omega) (by simp) ?_; intro v1 w1 hown hgrow hnil)
                      go_ret3
                      rw [Nat.zero_add, List.nil_append] at hown
                      obtain ⟨g1, c1, rfl, hO⟩ := own_ne hown (hnil (by simp))
                      exact rd_yes HSome.out.1.symm HSome.out.2.symm (by omega) (by omega) HV.out (by rfl) hO (((Below.refl _ _).alloc (Nat.le_refl _) _).grown hgrow (by simp) (fun k hk => by cases hk; exact Nat.le_refl _))
                    · have HC := Lib.hid (show Bs w w.heap.size (some ⟨g, o + (9 + 1), none⟩) (n - (9 + 1)) (c - (9 + 1)) (l.drop (9 + 1)) by simpa [Addr.add_lit] using HL.out.cut_no (k := 9 + 1) (by omega) hc)
                      have i1 : ((9 : Nat) : Int) + 1 ≤ (n : Int) := by omega
                      go_wp2_with (at_builtin; refine wpList_append_bs _ rfl (.tmp 58) (.tmp 62) _ rfl Try.u42 w.heap.size (.slice (some ⟨w.heap.size, 0, none⟩) 0 0) 0 [] rfl (own_zero w) w.heap.size (some ⟨g, o + (9 + 1), none⟩) (n - (9 + 1)) (c - (9 + 1)) (l.drop (9 + 1)) rfl (HC.out.alloc (Nat.le_refl _) _) (by omega) (by simp) ?_; intro v1 w1 hown hgrow hnil)
                      go_ret3
                      rw [Nat.zero_add, List.nil_append] at hown
                      obtain ⟨g1, c1, rfl, hO⟩ := own_ne hown (hnil (by simp))
                      exact rd_yes HSome.out.1.symm HSome.out.2.symm (by omega) rfl HV.out (by rfl) hO (((Below.refl _ _).alloc (Nat.le_refl _) _).grown hgrow (by simp) (fun k hk => by cases hk; exact Nat.le_refl _))
                · have hk1 : ((k : Int) == 9) = false := by simp; omega
                  clear c9 cz ck
                  by_cases hodd : U % 2 = 1
                  · have hp : ((U : Int) % 2 == 1) = true := by simp; omega
                    have HV := Lib.hid (show -((U : Int) / 2) - 1 = zag U by unfold zag; rw [if_pos hodd]; omega)
                    clear hodd
                    by_cases hc : c = k + 1
                    · obtain rfl : n = k + 1 := by omega
                      have HC := HL.out.cut_yes (k := k + 1) (Nat.le_refl _) hc
                      rw [hc, Nat.sub_self] at HC
                      have HC := Lib.hid HC
                      subst hc
                      go_wp2_with (at_builtin; refine wpList_append_bs _ rfl (.tmp 58) (.tmp 62) _ rfl Try.u42 w.heap.size (.slice (some ⟨w.heap.size, 0, none⟩) 0 0) 0 [] rfl (own_zero w) w.heap.size (some ⟨g, o, none⟩) 0 0 (l.drop (k + 1)) rfl (HC.out.alloc (Nat.le_refl _) _) (by omega) (by simp) ?_; intro v1 w1 hown hgrow hnil)
                      go_ret3
                      rw [Nat.zero_add, List.nil_append] at hown
                      obtain ⟨g1, c1, rfl, hO⟩ := own_ne hown (hnil (by simp))
                      exact rd_yes HSome.out.1.symm HSome.out.2.symm (by omega) (by omega) HV.out (by rfl) hO (((Below.refl _ _).alloc (Nat.le_refl _) _).grown hgrow (by simp) (fun k hk => by cases hk; exact Nat.le_refl _))
                    · have HC := Lib.hid (show Bs w w.heap.size (some ⟨g, o + (k + 1), none⟩) (n - (k + 1)) (c - (k + 1)) (l.drop (k + 1)) by simpa [Addr.add_lit] using HL.out.cut_no (k := k + 1) (by omega) hc)
                      have i1 : ((k : Nat) : Int) + 1 ≤ (n : Int) := by omega
                      go_wp2_with (at_builtin; refine wpList_append_bs _ rfl (.tmp 58) (.tmp 62) _ rfl Try.u42 w.heap.size (.slice (some ⟨w.heap.size, 0, none⟩) 0 0) 0 [] rfl (own_zero w) w.heap.size (some ⟨g, o + (k + 1), none⟩) (n - (k + 1)) (c - (k + 1)) (l.drop (k + 1)) rfl (HC.out.alloc (Nat.le_refl _) _) (by omega) (by simp) ?_; intro v1 w1 hown hgrow hnil)
                      go_ret3
                      rw [Nat.zero_add, List.nil_append] at hown
                      obtain ⟨g1, c1, rfl, hO⟩ := own_ne hown (hnil (by simp))
                      exact rd_yes HSome.out.1.symm HSome.out.2.symm (by omega) rfl HV.out (by rfl) hO (((Below.refl _ _).alloc (Nat.le_refl _) _).grown hgrow (by simp) (fun k hk => by cases hk; exact Nat.le_refl _))
                  · have hp : ((U : Int) % 2 == 1) = false := by simp; omega
                    have HV := Lib.hid (show (U : Int) / 2 = zag U by unfold zag; rw [if_neg hodd]; omega)
                    clear hodd
                    by_cases hc : c = k + 1
                    · obtain rfl : n = k + 1 := by omega
                      have HC := HL.out.cut_yes (k := k + 1) (Nat.le_refl _) hc
                      rw [hc, Nat.sub_self] at HC
                      have HC := Lib.hid HC
                      subst hc
                      go_wp2_with (at_builtin; refine wpList_append_bs _ rfl (.tmp 58) (.tmp 62) _ rfl Try.u42 w.heap.size (.slice (some ⟨w.heap.size, 0, none⟩) 0 0) 0 [] rfl (own_zero w) w.heap.size (some ⟨g, o, none⟩) 0 0 (l.drop (k + 1)) rfl (HC.out.alloc (Nat.le_refl _) _) (by omega) (by simp) ?_; intro v1 w1 hown hgrow hnil)
                      go_ret3
                      rw [Nat.zero_add, List.nil_append] at hown
                      obtain ⟨g1, c1, rfl, hO⟩ := own_ne hown (hnil (by simp))
                      exact rd_yes HSome.out.1.symm HSome.out.2.symm (by omega) (by omega) HV.out (by rfl) hO (((Below.refl _ _).alloc (Nat.le_refl _) _).grown hgrow (by simp) (fun k hk => by cases hk; exact Nat.le_refl _))
                    · have HC := Lib.hid (show Bs w w.heap.size (some ⟨g, o + (k + 1), none⟩) (n - (k + 1)) (c - (k + 1)) (l.drop (k + 1)) by simpa [Addr.add_lit] using HL.out.cut_no (k := k + 1) (by omega) hc)
                      have i1 : ((k : Nat) : Int) + 1 ≤ (n : Int) := by omega
                      go_wp2_with (at_builtin; refine wpList_append_bs _ rfl (.tmp 58) (.tmp 62) _ rfl Try.u42 w.heap.size (.slice (some ⟨w.heap.size, 0, none⟩) 0 0) 0 [] rfl (own_zero w) w.heap.size (some ⟨g, o + (k + 1), none⟩) (n - (k + 1)) (c - (k + 1)) (l.drop (k + 1)) rfl (HC.out.alloc (Nat.le_refl _) _) (by omega) (by simp) ?_; intro v1 w1 hown hgrow hnil)
                      go_ret3
                      rw [Nat.zero_add, List.nil_append] at hown
                      obtain ⟨g1, c1, rfl, hO⟩ := own_ne hown (hnil (by simp))
                      exact rd_yes HSome.out.1.symm HSome.out.2.symm (by omega) rfl HV.out (by rfl) hO (((Below.refl _ _).alloc (Nat.le_refl _) _).grown hgrow (by simp) (fun k hk => by cases hk; exact Nat.le_refl _))
        · have hge : (128 : Int) ≤ (x : Int) := by omega
          by_cases ck : k = 9
          · have HR := Lib.hid (rd_none9 hkl HX.out HE.out ⟨ck, by omega⟩)
            obtain ⟨b', hb'⟩ := ref_w ((b : Int) * 128)
            obtain ⟨a', ha'⟩ := ref_w ((a : Int) + IntKind.u64.wrap ((x : Int) % 128 * (b : Int)))
            have HB' := Lib.hid hb'
            have HA' := Lib.hid ha'
            clear hb' ha'
            subst ck
            by_cases cx : x % 128 ≤ 1
            · have hx1 : ¬ (1 : Int) < (x : Int) % 128 := by omega
              go_wp2
              go_round
              case rel => exact ⟨10, a', b', rfl, by rw [HA'.out], by rw [HB'.out], .inr ⟨rfl, HR.out⟩⟩
              case measure => simp [intOf]
            · have hx1 : (1 : Int) < (x : Int) % 128 := by omega
              go_wp2
              go_ret3
              exact .inl ⟨firstS_none HR.out, rfl, rfl⟩
          · have hk1 : ((k : Int) == 9) = false := by simp; omega
            have HR := Lib.hid (rd_goes hkl HX.out HE.out (fun h => ck h.1) c128)
            have HU := Lib.hid (ref_u (x := x) HBB.out HA.out hk9 (fun h => absurd h ck)).1
            have HB' := Lib.hid (ref_b HBB.out (show k ≤ 8 by omega))
            go_wp2
            go_round
            case rel => exact ⟨k + 1, _, _, by go_num, by rw [HU.out], by rw [HB'.out], .inl ⟨by omega, by omega, rfl, or_lt HA.out, HR.out⟩⟩
            case measure => simp [intOf]; omega
      · have hge : ¬ (k : Int) < (n : Int) := by omega
        have HR := Lib.hid (firstS_none (rd_end HE.out (by have := HL.out.len; omega)))
        go_wp2
        go_ret3
        exact .inl ⟨HR.out, rfl, rfl⟩
    · have HR := Lib.hid (firstS_none he)
      subst hk
      clear he
      go_wp2
      go_ret3
      exact .inl ⟨HR.out, rfl, rfl⟩
end Go.Proofs.Ytkjckdndkljeeaa


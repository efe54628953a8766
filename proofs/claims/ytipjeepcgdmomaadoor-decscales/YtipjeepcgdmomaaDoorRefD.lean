/- Package pyxref1: AddNat. -/
import Derived.Test.YtipjeepcgdmomaaDoorRefC
namespace Go.Proofs.YtipjeepcgdmomaaDoor
open Go.RowKit

theorem dv_take (a : List Nat) (k : Nat) : dv (a.take (k + 1)) = dv (a.take k) + a.getD k 0 * 10 ^ k := by
  by_cases h : k < a.length
  · rw [List.take_succ_eq_append_getElem h, dv_snoc, List.length_take, Nat.min_eq_left (Nat.le_of_lt h)]
    simp [List.getD_eq_getElem?_getD, h]
  · rw [List.take_of_length_le (by omega), List.take_of_length_le (by omega), List.getD_eq_getElem?_getD, List.getElem?_eq_none (by omega)]
    simp
theorem dv_trim {ds : List Nat} {m : Nat} (h : TrimAt ds m) : dv (ds.take m) = dv ds ∧ Norm (ds.take m) := by
  obtain ⟨h1, h2, h3⟩ := h
  constructor
  · have : ∀ k, dv (ds.take (m + k)) = dv (ds.take m) := by
      intro k
      induction k with
      | zero => rfl
      | succ k ih => rw [← Nat.add_assoc, dv_take, ih, h2 (m + k) (by omega), Nat.zero_mul, Nat.add_zero]
    have e := this (ds.length - m)
    rw [Nat.add_sub_cancel' h1, List.take_length] at e
    exact e.symm
  · by_cases hm : m = 0
    · subst hm; left; simp
    · right
      have h3 := h3 (by omega)
      rw [List.length_take, Nat.min_eq_left h1]
      rw [List.getD_eq_getElem?_getD, List.getElem?_take_of_lt (by omega), ← List.getD_eq_getElem?_getD]
      exact h3
def AddI (a b ds : List Nat) (k c : Nat) : Prop := ds.length = k ∧ (∀ d ∈ ds, d < 10) ∧ c ≤ 1 ∧ dv ds + c * 10 ^ k = dv (a.take k) + dv (b.take k)
theorem addI_0 (a b : List Nat) : AddI a b [] 0 0 := ⟨rfl, by simp, by omega, by simp [dv]⟩
theorem dig_lt {a : List Nat} (h : ∀ d ∈ a, d < 10) (k : Nat) : a.getD k 0 < 10 := by
  rw [List.getD_eq_getElem?_getD]
  cases e : a[k]? with
  | none => simp
  | some v => simpa using h v (List.mem_of_getElem? e)
theorem addI_s {a b ds : List Nat} {k c : Nat} (ha : ∀ d ∈ a, d < 10) (hb : ∀ d ∈ b, d < 10) (h : AddI a b ds k c) :
    AddI a b (ds ++ [(a.getD k 0 + b.getD k 0 + c) % 10]) (k + 1) ((a.getD k 0 + b.getD k 0 + c) / 10) := by
  obtain ⟨h1, h2, h3, h4⟩ := h
  have x := dig_lt ha k
  have y := dig_lt hb k
  refine ⟨by simp [h1], ?_, by omega, ?_⟩
  · intro d hd
    rcases List.mem_append.1 hd with hd | hd
    · exact h2 d hd
    · simp at hd; omega
  · rw [dv_snoc, h1, dv_take, dv_take, Nat.pow_succ]
    generalize hs : a.getD k 0 + b.getD k 0 + c = s
    have e : s % 10 * 10 ^ k + s / 10 * (10 ^ k * 10) = s * 10 ^ k := by
      rw [Nat.mul_comm (10 ^ k) 10, ← Nat.mul_assoc, ← Nat.add_mul, Nat.mul_comm (s / 10), Nat.mod_add_div]
    have e2 : s * 10 ^ k = a.getD k 0 * 10 ^ k + b.getD k 0 * 10 ^ k + c * 10 ^ k := by rw [← hs, Nat.add_mul, Nat.add_mul]
    omega
theorem addI_end {a b ds : List Nat} {k c : Nat} (h : AddI a b ds k c) (ha : a.length ≤ k) (hb : b.length ≤ k) (hc : c = 0) : dv ds = dv a + dv b := by
  obtain ⟨_, _, _, h4⟩ := h
  rw [List.take_of_length_le ha, List.take_of_length_le hb, hc] at h4
  omega

set_option maxHeartbeats 1600000 in
theorem addNat_c (A B : Option Addr) (n m ca cb : Nat) (a b : List Nat) (w : World) (ha : DigC w A n ca a) (hb : DigC w B m cb b) (hn : n ≤ 900000) (hm : m ≤ 900000) :
    Calls Tryd.prog 60 #[.slice A n ca, .slice B m cb] w (RetN w (dv a + dv b)) := by
  obtain ⟨i0, hi, hz0, hz1, hz2⟩ := info_parts info_int
  have la := ha.1
  have lb := hb.1
  have da := ha.2.2.2.1
  have db := hb.2.2.2.1
  have LA := Lib.hid la
  have LB := Lib.hid lb
  clear la lb
  have DA := Lib.hid da
  have DB := Lib.hid db
  clear da db
  go_enter Tryd.func60, Tryd.ntmps60
  go_wp2
  go_loopw [5, 6, 7] (fun v s q wr => ∃ (k c : Nat) (ds : List Nat), k ≤ 900001 ∧ (k ≤ n ∨ k ≤ m ∨ c = 0) ∧ s = .int .i64 c ∧ q = .int .i64 k ∧ AddI a b ds k c ∧ wr.ownsRow w.heap.size 3 1 v ds.length (ds.map mkD_) ∧ Below w.heap.size w wr) (fun _ _ q _ => 1000000 - (intOf q).toNat)
  case atStart => exact ⟨0, 0, [], by omega, by omega, rfl, rfl, addI_0 a b, World.ownsRow_nil _ _ _ _, Below.refl _ _⟩
  case round =>
    obtain ⟨k, c, ds, hk, hk2, rfl, rfl, HI, hown, HB⟩ := hrel
    have hc1 := HI.2.2.1
    have hsz := HB.size
    have hlen := HI.1
    have HLE := Lib.hid hlen
    clear hlen
    by_cases hgo : k < n ∨ k < m ∨ 0 < c
    · have hk3 : k ≤ 900000 := by omega
      obtain ⟨x, hx⟩ : ∃ x, a.getD k 0 = x := ⟨_, rfl⟩
      obtain ⟨y, hy⟩ : ∃ y, b.getD k 0 = y := ⟨_, rfl⟩
      have hx9 : x < 10 := by rw [← hx]; exact dig_lt DA.out k
      have hy9 : y < 10 := by rw [← hy]; exact dig_lt DB.out k
      have HI2 := addI_s DA.out DB.out HI
      rw [hx, hy] at HI2
      have C1 := digit_c A n ca k a wr (ha.below HB)
      have C2 := digit_c B m cb k b wr (hb.below HB)
      rw [hx] at C1
      rw [hy] at C2
      have HC1 := Lib.hid C1
      have HC2 := Lib.hid C2
      have hnew : k + 1 ≤ n ∨ k + 1 ≤ m ∨ (x + y + c) / 10 = 0 := by
        by_cases h1 : k < n
        · left; omega
        · by_cases h2 : k < m
          · right; left; omega
          · right; right
            have e1 : x = 0 := by rw [← hx, List.getD_eq_getElem?_getD, List.getElem?_eq_none (by rw [LA.out]; omega)]; rfl
            have e2 : y = 0 := by rw [← hy, List.getD_eq_getElem?_getD, List.getElem?_eq_none (by rw [LB.out]; omega)]; rfl
            omega
      have HNW := Lib.hid hnew
      clear hx hy C1 C2 hnew ha hb
      have hdl : ds.length ≤ 900001 := by rw [HLE.out]; omega
      rcases (show k < n ∨ (¬ k < n ∧ k < m) ∨ (¬ k < n ∧ ¬ k < m ∧ 0 < c) by omega) with h | ⟨h, h'⟩ | ⟨h, h', h''⟩
      all_goals
        go_wp2_with fail
        refine HC1.out.mono ?_
        rintro e w1 ⟨rfl, rfl⟩
        go_wp2_with fail
        refine HC2.out.mono ?_
        rintro e w1 ⟨rfl, rfl⟩
        go_wp2_with (first
          | (at_builtin; refine wpList_append_own _ rfl _ _ 38 rfl w.heap.size 3 i0 (.int .i64 0) 1 8 Tryd.underlying38 hi hz0 hz1 hz2 rfl (by decide) _ _ _ rfl (hown.alloc _) ⟨wr.heap.size, 0, none⟩ 1 1 [.int .i64 (((x + y + c) % 10 : Nat) : Int)] rfl rfl (by intro j u hj; match j, hj with | 0, hj => simp at hj; subst hj; simp [Addr.add]) (by intro u hu; simp at hu; subst hu; rfl) (by unfold maxLen; omega) (by omega) (by simp; omega) ?_)
          | go_in)
        intro v' w1 hown' hgrow _
        have HB2 : Below w.heap.size w w1 := (HB.alloc hsz _).grown hgrow (by simp; omega) (own_base hown)
        have hown2 : w1.ownsRow w.heap.size 3 1 v' (ds ++ [(x + y + c) % 10]).length ((ds ++ [(x + y + c) % 10]).map mkD_) := by
          rw [List.length_append, List.length_singleton, List.map_append]
          simpa [mkD_] using hown'
        clear hown' hgrow
        go_wp2
        go_roundw
        case rel => exact ⟨k + 1, (x + y + c) / 10, _, by omega, HNW.out, by go_num, by go_num, HI2, hown2, HB2⟩
        case measure => simp [intOf]; omega
    · have h1 : ¬ k < n := fun h => hgo (Or.inl h)
      have h2 : ¬ k < m := fun h => hgo (Or.inr (Or.inl h))
      obtain rfl : c = 0 := by omega
      have E := addI_end HI (by rw [LA.out]; omega) (by rw [LB.out]; omega) rfl
      obtain ⟨D, cap, rfl, HD⟩ := dig_own hown HI.2.1 (by rw [HLE.out]; omega)
      have HT := fun m h => dv_trim (ds := ds) (m := m) h
      have HTH := Lib.hid HT
      have HEH := Lib.hid E
      clear HT E hgo ha hb
      go_wp2_with fail
      refine (trim_c D _ cap ds _ HD).mono ?_
      rintro e w1 ⟨_, ⟨t, ht, rfl⟩, rfl, rfl⟩
      have H1 := HTH.out t ht
      have H2 := HD.take ht.1
      rw [HEH.out] at H1
      go_wp2
      go_ret
      exact ⟨_, _, _, _, ⟨H2, H1.2, H1.1⟩, rfl, HB⟩
end Go.Proofs.YtipjeepcgdmomaaDoor

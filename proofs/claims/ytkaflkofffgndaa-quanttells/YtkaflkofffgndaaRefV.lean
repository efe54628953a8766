/- Package pyxref1: Rounded, goodMode. -/
import Derived.Test.YtkaflkofffgndaaRefQ
import Derived.Test.YtkaflkofffgndaaQTellP
namespace Go.Proofs.Ytkaflkofffgndaa
open Go.RowKit
theorem norm_zero {ds : List Nat} (hn : Norm ds) : dv ds = 0 ↔ ds = [] := by
  constructor
  · intro h
    rcases hn with rfl | hn
    · rfl
    · by_cases h0 : ds = []
      · exact h0
      · have := dv_ge h0 hn
        have : 0 < 10 ^ (ds.length - 1) := Nat.pow_pos (by decide)
        omega
  · rintro rfl
    rfl
theorem dv_odd (ds : List Nat) : ((ds.getD 0 0 : Nat) : Int) % 2 = ((dv ds : Nat) : Int) % 2 := by
  cases ds with
  | nil => rfl
  | cons d l => simp only [List.getD_cons_zero, dv]; omega
theorem half_side (R D : Nat) (h : R < D) : cmpI (R + R) D = cmpI R (D - R) := by
  unfold cmpI
  (repeat' split) <;> omega
theorem dig_one (w : World) : DigC (w.alloc (.cells #[.int .i64 1] 3)) (some ⟨w.heap.size, 0, none⟩) 1 1 [1] := by
  refine ⟨rfl, ⟨by omega, fun h => by cases h⟩, by omega, by simp, fun _ => ⟨w.heap.size, 0, rfl, by simp, fun j hj => ?_⟩⟩
  obtain rfl : j = 0 := by omega
  simp
/-- What Rounded adds. -/
def upB (n : Bool) (Q R D : Nat) (m : Int) : Bool := decide (R ≠ 0) && farB n (decide (Q % 2 = 1)) (cmpI R (D - R)) m
def stN (β : Bool) : Nat := if β = true then 1 else 0
theorem stN_t : stN true = 1 := rfl
theorem stN_f : stN false = 0 := rfl
theorem roundN_up (n : Bool) (A D : Nat) (m : Int) : roundN n A D m = A / D + stN (upB n (A / D) (A % D) D m) := by
  unfold roundN upB stN
  congr 1
  by_cases h : A % D ≠ 0
  · simp [h]
  · simp [h]
theorem goodMode_c (t m : Int) (w : World) : Calls Try.prog 28 #[.int .i64 t, .int .i64 m] w fun e w' => e = .returned (.bool (decide (GoodM t m))) ∧ w = w' := by
  by_cases h0 : 0 ≤ t
  · by_cases h1 : t ≤ 9
    · by_cases h2 : 0 ≤ m
      · by_cases h3 : m ≤ 4
        · skip
          rw [show decide (GoodM t m) = true from (decide_eq_true ⟨h0, h1, h2, h3⟩)]
          go_enter Try.func28, Try.ntmps28
          go_wp2
          go_ret
          exact ⟨by first | rfl | simp, rfl⟩
        · skip
          rw [show decide (GoodM t m) = false from (decide_eq_false (fun h => h3 h.2.2.2))]
          go_enter Try.func28, Try.ntmps28
          go_wp2
          go_ret
          exact ⟨by first | rfl | simp, rfl⟩
      · skip
        rw [show decide (GoodM t m) = false from (decide_eq_false (fun h => h2 h.2.2.1))]
        go_enter Try.func28, Try.ntmps28
        go_wp2
        go_ret
        exact ⟨by first | rfl | simp, rfl⟩
    · skip
      rw [show decide (GoodM t m) = false from (decide_eq_false (fun h => h1 h.2.1))]
      go_enter Try.func28, Try.ntmps28
      go_wp2
      go_ret
      exact ⟨by first | rfl | simp, rfl⟩
  · skip
    rw [show decide (GoodM t m) = false from (decide_eq_false (fun h => h0 h.1))]
    go_enter Try.func28, Try.ntmps28
    go_wp2
    go_ret
    exact ⟨by first | rfl | simp, rfl⟩
set_option maxRecDepth 100000 in
set_option maxHeartbeats 3200000 in
theorem rrounded_c (n : Bool) (A B : Option Addr) (na nb ca cb : Nat) (a b : List Nat) (m : Int) (w : World) (ha : DigC w A na ca a) (hb : DigC w B nb cb b) (nob : Norm b) (hna : na ≤ 300000) (hnb : nb ≤ 300000) (h0 : 0 < dv b) (hm : m = 0 ∨ m = 1 ∨ m = 2 ∨ m = 3 ∨ m = 4) :
    Calls Try.prog 30 #[.bool n, .slice A na ca, .slice B nb cb, .int .i64 m] w (RetN w (roundN n (dv a) (dv b) m)) := by
  have HD := Lib.hid (divNat_c A B na nb ca cb a b w ha hb nob (by omega) (by omega) h0)
  have HB := Lib.hid hb
  have HA := Lib.hid ha
  have HQL := Lib.hid (show dv a / dv b ≤ dv a from Nat.div_le_self _ _)
  have HM := Lib.hid hm
  have HRN := Lib.hid (roundN_up n (dv a) (dv b) m)
  have HRL := Lib.hid (show dv a % dv b < dv b from Nat.mod_lt _ h0)
  rw [HRN.out]
  obtain ⟨Q, hQ⟩ : ∃ Q, dv a / dv b = Q := ⟨_, rfl⟩
  obtain ⟨R, hR⟩ : ∃ R, dv a % dv b = R := ⟨_, rfl⟩
  rw [hQ, hR] at HD ⊢
  rw [hR] at HRL
  rw [hQ] at HQL
  have HUP := Lib.hid (show upB n Q R (dv b) m = (decide (R ≠ 0) && farB n (decide (Q % 2 = 1)) (cmpI R (dv b - R)) m) from rfl)
  obtain ⟨β, hβ⟩ : ∃ β, upB n Q R (dv b) m = β := ⟨_, rfl⟩
  rw [hβ] at HUP ⊢
  clear hQ hR hm ha hb hβ HRN
  go_enter Try.func30, Try.ntmps30
  go_wp2_with fail
  refine (HD.out).mono ?_
  rintro e w1 ⟨A1, n1, k1, d1, A2, n2, k2, d2, ⟨D1, N1, E1, _⟩, ⟨D2, N2, E2, _⟩, rfl, hb1⟩
  have HB1 := Lib.hid hb1
  have DB := Lib.hid (HB.out.below hb1)
  clear hb1 HD HB
  have l2 : n2 ≤ nb := lenA D2 N2 (by have h1 := dv_lt DB.out.2.2.2.1; have h2 := HRL.out; rw [DB.out.1] at h1; rw [E2]; omega)
  have l1 : n1 ≤ na := lenA D1 N1 (by have h1 := dv_lt HA.out.2.2.2.1; have h2 := HQL.out; rw [HA.out.1] at h1; rw [E1]; omega)
  have hz : R = 0 ↔ n2 = 0 := by
    rw [← E2, norm_zero N2, ← D2.1]
    exact List.length_eq_zero_iff.symm
  have D1h := Lib.hid D1
  have N1h := Lib.hid N1
  have E1h := Lib.hid E1
  have HZ := Lib.hid hz
  clear D1 N1 E1 hz HA HQL
  go_wp2_with fail
  refine (addNat_c A2 A2 n2 n2 k2 k2 d2 d2 _ D2 D2 (by omega) (by omega)).mono ?_
  rintro e w2 ⟨A3, n3, k3, d3, ⟨D3, N3, E3⟩, rfl, hb2⟩
  have HB2 := Lib.hid (HB1.out.trans (hb2.mono HB1.out.size))
  have DB2 := Lib.hid (DB.out.below hb2)
  have D1i := Lib.hid (D1h.out.below hb2)
  clear hb2 D2 HB1 DB D1h
  go_wp2_with fail
  refine (cmpNat_c A3 B n3 nb k3 cb d3 b _ D3 DB2.out N3 nob).mono ?_
  rintro e w3 ⟨_, rfl, rfl, hb3⟩
  rw [E3, E2, half_side R (dv b) HRL.out]
  have HB3 := Lib.hid (HB2.out.trans (hb3.mono HB2.out.size))
  have D1j := Lib.hid (D1i.out.below hb3)
  obtain ⟨K, hK⟩ : ∃ K, cmpI R (dv b - R) = K := ⟨_, rfl⟩
  have hK3 := cmpI_3 R (dv b - R)
  have hK0 : R = 0 → K = -1 := by
    intro h
    rw [← hK, h]
    unfold cmpI
    rw [if_neg (by omega), if_pos (by omega)]
  rw [hK] at HUP hK3 ⊢
  have HK0 := Lib.hid hK0
  have HK3 := Lib.hid hK3
  clear hK hK0 hK3 hb3 D3 N3 E3 N2 E2 HB2 D1i DB2
  rcases HM.out with rfl | rfl | rfl | rfl | rfl
  · obtain rfl : β = false := by rw [HUP.out]; simp [farB]
    go_wp2
    go_ret
    exact ⟨A1, n1, k1, d1, ⟨D1j.out, N1h.out, by rw [E1h.out, stN_f]; rfl⟩, rfl, HB3.out⟩
  · by_cases hr : R = 0
    · have hn := HZ.out.1 hr
      subst hn
      obtain rfl : β = false := by rw [HUP.out, hr]; simp
      go_wp2
      go_ret
      exact ⟨A1, n1, k1, d1, ⟨D1j.out, N1h.out, by rw [E1h.out, stN_f]; rfl⟩, rfl, HB3.out⟩
    · have hn : ¬ n2 = 0 := fun h => hr (HZ.out.2 h)
      have hn' : (0 : Int) < (n2 : Int) := by omega
      obtain rfl : β = true := by rw [HUP.out]; simp [farB, hr]
      have D4 := dig_one w3
      go_wp2_with fail
      refine (addNat_c A1 (some ⟨w3.heap.size, 0, none⟩) n1 1 k1 1 d1 [1] _ (D1j.out.alloc _) D4 (by omega) (by omega)).mono ?_
      rintro e w4 ⟨A5, n5, k5, d5, ⟨D5, N5, E5⟩, rfl, hb4⟩
      have HB4 := Lib.hid ((bel_alloc HB3.out _).trans (hb4.mono (by have := HB3.out.size; simp; omega)))
      go_wp2
      go_ret
      exact ⟨A5, n5, k5, d5, ⟨D5, N5, by rw [E5, E1h.out, stN_t]; simp [dv]⟩, rfl, HB4.out⟩
  · cases n
    · obtain rfl : β = false := by rw [HUP.out]; simp [farB]
      go_wp2
      go_ret
      exact ⟨A1, n1, k1, d1, ⟨D1j.out, N1h.out, by rw [E1h.out, stN_f]; rfl⟩, rfl, HB3.out⟩
    · by_cases hr : R = 0
      · have hn := HZ.out.1 hr
        subst hn
        obtain rfl : β = false := by rw [HUP.out, hr]; simp
        go_wp2
        go_ret
        exact ⟨A1, n1, k1, d1, ⟨D1j.out, N1h.out, by rw [E1h.out, stN_f]; rfl⟩, rfl, HB3.out⟩
      · have hn : ¬ n2 = 0 := fun h => hr (HZ.out.2 h)
        have hn' : (0 : Int) < (n2 : Int) := by omega
        obtain rfl : β = true := by rw [HUP.out]; simp [farB, hr]
        have D4 := dig_one w3
        go_wp2_with fail
        refine (addNat_c A1 (some ⟨w3.heap.size, 0, none⟩) n1 1 k1 1 d1 [1] _ (D1j.out.alloc _) D4 (by omega) (by omega)).mono ?_
        rintro e w4 ⟨A5, n5, k5, d5, ⟨D5, N5, E5⟩, rfl, hb4⟩
        have HB4 := Lib.hid ((bel_alloc HB3.out _).trans (hb4.mono (by have := HB3.out.size; simp; omega)))
        go_wp2
        go_ret
        exact ⟨A5, n5, k5, d5, ⟨D5, N5, by rw [E5, E1h.out, stN_t]; simp [dv]⟩, rfl, HB4.out⟩
  · rcases HK3.out with rfl | rfl | rfl
    · obtain rfl : β = false := by rw [HUP.out]; simp [farB]
      go_wp2
      go_ret
      exact ⟨A1, n1, k1, d1, ⟨D1j.out, N1h.out, by rw [E1h.out, stN_f]; rfl⟩, rfl, HB3.out⟩
    · have hr : ¬ R = 0 := fun h => by have := HK0.out h; omega
      obtain rfl : β = true := by rw [HUP.out]; simp [farB, hr]
      have D4 := dig_one w3
      go_wp2_with fail
      refine (addNat_c A1 (some ⟨w3.heap.size, 0, none⟩) n1 1 k1 1 d1 [1] _ (D1j.out.alloc _) D4 (by omega) (by omega)).mono ?_
      rintro e w4 ⟨A5, n5, k5, d5, ⟨D5, N5, E5⟩, rfl, hb4⟩
      have HB4 := Lib.hid ((bel_alloc HB3.out _).trans (hb4.mono (by have := HB3.out.size; simp; omega)))
      go_wp2
      go_ret
      exact ⟨A5, n5, k5, d5, ⟨D5, N5, by rw [E5, E1h.out, stN_t]; simp [dv]⟩, rfl, HB4.out⟩
    · have hr : ¬ R = 0 := fun h => by have := HK0.out h; omega
      obtain rfl : β = true := by rw [HUP.out]; simp [farB, hr]
      have D4 := dig_one w3
      go_wp2_with fail
      refine (addNat_c A1 (some ⟨w3.heap.size, 0, none⟩) n1 1 k1 1 d1 [1] _ (D1j.out.alloc _) D4 (by omega) (by omega)).mono ?_
      rintro e w4 ⟨A5, n5, k5, d5, ⟨D5, N5, E5⟩, rfl, hb4⟩
      have HB4 := Lib.hid ((bel_alloc HB3.out _).trans (hb4.mono (by have := HB3.out.size; simp; omega)))
      go_wp2
      go_ret
      exact ⟨A5, n5, k5, d5, ⟨D5, N5, by rw [E5, E1h.out, stN_t]; simp [dv]⟩, rfl, HB4.out⟩
  · rcases HK3.out with rfl | rfl | rfl
    · obtain rfl : β = false := by rw [HUP.out]; simp [farB]
      go_wp2
      go_ret
      exact ⟨A1, n1, k1, d1, ⟨D1j.out, N1h.out, by rw [E1h.out, stN_f]; rfl⟩, rfl, HB3.out⟩
    · have hr : ¬ R = 0 := fun h => by have := HK0.out h; omega
      have hod := dv_odd d1
      rw [E1h.out] at hod
      have HDG := Lib.hid (digit_c A1 n1 k1 0 d1 w3 D1j.out)
      obtain ⟨x, hx⟩ : ∃ x : Nat, d1.getD 0 0 = x := ⟨_, rfl⟩
      rw [hx] at hod HDG
      clear hx
      by_cases ho : Q % 2 = 1
      · obtain rfl : β = true := by rw [HUP.out]; simp [farB, hr, ho]
        have hx1 : (x : Int).tmod 2 = 1 := by rw [Int.tmod_eq_emod_of_nonneg (by omega)]; omega
        go_wp2_with fail
        refine (HDG.out).mono ?_
        rintro e w' ⟨rfl, rfl⟩
        have D4 := dig_one w3
        go_wp2_with fail
        refine (addNat_c A1 (some ⟨w3.heap.size, 0, none⟩) n1 1 k1 1 d1 [1] _ (D1j.out.alloc _) D4 (by omega) (by omega)).mono ?_
        rintro e w4 ⟨A5, n5, k5, d5, ⟨D5, N5, E5⟩, rfl, hb4⟩
        have HB4 := Lib.hid ((bel_alloc HB3.out _).trans (hb4.mono (by have := HB3.out.size; simp; omega)))
        go_wp2
        go_ret
        exact ⟨A5, n5, k5, d5, ⟨D5, N5, by rw [E5, E1h.out, stN_t]; simp [dv]⟩, rfl, HB4.out⟩
      · obtain rfl : β = false := by rw [HUP.out]; simp [farB]; omega
        have hx1 : ¬ (x : Int).tmod 2 = 1 := by rw [Int.tmod_eq_emod_of_nonneg (by omega)]; omega
        go_wp2_with fail
        refine (HDG.out).mono ?_
        rintro e w' ⟨rfl, rfl⟩
        go_wp2
        go_ret
        exact ⟨A1, n1, k1, d1, ⟨D1j.out, N1h.out, by rw [E1h.out, stN_f]; rfl⟩, rfl, HB3.out⟩
    · have hr : ¬ R = 0 := fun h => by have := HK0.out h; omega
      obtain rfl : β = true := by rw [HUP.out]; simp [farB, hr]
      have D4 := dig_one w3
      go_wp2_with fail
      refine (addNat_c A1 (some ⟨w3.heap.size, 0, none⟩) n1 1 k1 1 d1 [1] _ (D1j.out.alloc _) D4 (by omega) (by omega)).mono ?_
      rintro e w4 ⟨A5, n5, k5, d5, ⟨D5, N5, E5⟩, rfl, hb4⟩
      have HB4 := Lib.hid ((bel_alloc HB3.out _).trans (hb4.mono (by have := HB3.out.size; simp; omega)))
      go_wp2
      go_ret
      exact ⟨A5, n5, k5, d5, ⟨D5, N5, by rw [E5, E1h.out, stN_t]; simp [dv]⟩, rfl, HB4.out⟩
end Go.Proofs.Ytkaflkofffgndaa

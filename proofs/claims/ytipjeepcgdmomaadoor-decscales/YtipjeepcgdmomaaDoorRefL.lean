/- Package pyxref1: short, Nat2, Nat4. -/
import Derived.Test.YtipjeepcgdmomaaDoorRefK
import Derived.Deep.RegionHeld3
namespace Go.Proofs.YtipjeepcgdmomaaDoor
open Go.RowKit

theorem dv_drop_le (a : List Nat) (k : Nat) : dv (a.drop k) ≤ dv a := by
  by_cases h : k ≤ a.length
  · have h1 := dv_split a k h
    have h2 : 1 * dv (a.drop k) ≤ 10 ^ k * dv (a.drop k) := Nat.mul_le_mul_right _ (Nat.pow_pos (by decide))
    omega
  · rw [List.drop_of_length_le (by omega)]
    simp [dv]
def ShortI (a : List Nat) (n : Nat) (v s : Value) : Prop := ∃ q : Int, -1 ≤ q ∧ q < n ∧ s = .int .i64 q ∧ v = .int .u64 (dv (a.drop (q + 1).toNat) : Nat)
set_option maxRecDepth 100000 in
set_option maxHeartbeats 800000 in
theorem shortN_c (A : Option Addr) (n cap : Nat) (ds : List Nat) (w : World) (h : DigC w A n cap ds) (hlt : dv ds < 18446744073709551616) :
    Calls Tryd.prog 43 #[.slice A n cap] w fun e w' => e = .returned (.int .u64 (dv ds : Nat)) ∧ w = w' := by
  have LA := Lib.hid h.1
  have DA := Lib.hid h.2.2.2.1
  have HA := Lib.hid h
  have hn6 := h.2.2.1
  have HLT := Lib.hid hlt
  clear h hlt
  go_enter Tryd.func43, Tryd.ntmps43
  go_wp2
  go_loop [3, 4] (fun v s => ShortI ds n v s) (fun _ s => (intOf s + 1).toNat)
  case atStart =>
    refine ⟨(n : Int) - 1, by omega, by omega, rfl, ?_⟩
    rw [List.drop_of_length_le (by rw [LA.out]; omega)]
    rfl
  case round =>
    obtain ⟨q, hq1, hq2, rfl, rfl⟩ := hrel
    by_cases hq : 0 ≤ q
    · obtain ⟨p, rfl⟩ : ∃ p : Nat, q = p := ⟨q.toNat, by omega⟩
      have hp : p < n := by omega
      obtain ⟨b, off, hA, hlt, hc⟩ := HA.out.2.2.2.2 (by omega)
      have cp := hc p hp
      have hd := dv_drop ds p (by rw [LA.out]; exact hp)
      have hle := dv_drop_le ds p
      have e1 : ((p : Int) + 1).toNat = p + 1 := by omega
      rw [e1]
      obtain ⟨x, hx⟩ : ∃ x, ds.getD p 0 = x := ⟨_, rfl⟩
      have hx9 : x < 10 := by rw [← hx]; exact dig_lt DA.out p
      obtain ⟨t, ht⟩ : ∃ t, dv (ds.drop (p + 1)) = t := ⟨_, rfl⟩
      rw [hx] at cp hd
      rw [ht] at hd
      rw [ht]
      have hb : x + 10 * t < 18446744073709551616 := by have := HLT.out; omega
      have HD := Lib.hid hd
      have hpi : (p : Int) < (n : Int) := by omega
      clear hc hx ht hd hle e1
      subst hA
      go_wp2
      go_round
      case rel => exact ⟨(p : Int) - 1, by omega, by omega, rfl, by rw [show ((p : Int) - 1 + 1).toNat = p by omega, HD.out]; go_num⟩
      case measure => simp [intOf]
    · obtain rfl : q = -1 := by omega
      go_wp2
      go_ret
      exact ⟨by simp, rfl⟩
def NS (w0 : World) (a b : Int) (w : World) : Prop := HB w0 [(w0.heap.size, 24, #[.int .u64 a, .int .u64 b])] w
theorem nsMk {w0 w : World} {a b : Int} (h : NS w0 a b w) : NS w0 a b w ∧ w.cell? ⟨w0.heap.size, 0, none⟩ = some (.int .u64 a) ∧ w.cell? ⟨w0.heap.size, 1, none⟩ = some (.int .u64 b) :=
  ⟨h, (HB.two (t := 24) h (by simp)).2⟩
theorem ns0 (w0 : World) (a b : Int) : NS w0 a b (w0.alloc (.cells #[.int .u64 a, .int .u64 b] 24)) :=
  ⟨(Below.refl _ _).alloc (Nat.le_refl _) _, fun x hx => by simp at hx; subst hx; exact Blk.new _ _ _⟩
theorem v2_dig (a b : Int) : b.toNat * 18446744073709551616 + a.toNat = v2 a b := by unfold v2; omega
theorem pow64_20 {a : Int} (h : U64 a) : a.toNat < 10 ^ 20 := by unfold U64 at h; omega

theorem pow64_40 {a : Int} (h : U64 a) : a.toNat * 18446744073709551616 < 10 ^ 40 := by unfold U64 at h; omega

end Go.Proofs.YtipjeepcgdmomaaDoor

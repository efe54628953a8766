/- Contracts of package limb's functions that call others, of its shifts' parts and halves. -/
import Derived.Test.YtkaflkofffgndaaDoorLimbA
import Derived.Lib.Hide
import Derived.RegionTactic
import Derived.BigRegion
namespace Go.Proofs.YtkaflkofffgndaaDoor
open Go.RowKit

def SubR (a0 a1 b0 b1 s0 s1 : Int) (p : Bool) : Prop :=
  U64 s0 ∧ U64 s1 ∧ (v2 b0 b1 ≤ v2 a0 a1 ∧ p = true ∧ v2 s0 s1 + v2 b0 b1 = v2 a0 a1 ∨ v2 a0 a1 < v2 b0 b1 ∧ p = false ∧ s0 = 0 ∧ s1 = 0)
theorem u64_0 : U64 0 := by simp [U64]
theorem u64_1 : U64 1 := by simp [U64]
theorem v2_lt {a b : Int} (ha : U64 a) (hb : U64 b) : v2 a b < 340282366920938463463374607431768211456 := by simp only [U64, v2] at *; omega
theorem subR_yes {a0 a1 b0 b1 s0 s1 : Int} (ha0 : U64 a0) (ha1 : U64 a1) (hb0 : U64 b0) (hb1 : U64 b1) (h : v2 b0 b1 ≤ v2 a0 a1) (hs : SubW a0 a1 b0 b1 s0 s1) : SubR a0 a1 b0 b1 s0 s1 true := by
  have := v2_lt ha0 ha1
  have := v2_lt hb0 hb1
  obtain ⟨h0, h1, h2⟩ := hs
  exact ⟨h0, h1, Or.inl ⟨h, rfl, by omega⟩⟩

theorem below3 {w w1 : World} {o1 o2 o3 : Obj} (hb : Below (((w.alloc o1).alloc o2).alloc o3).heap.size (((w.alloc o1).alloc o2).alloc o3) w1) : Below w.heap.size w w1 :=
  ((((Below.refl _ _).alloc (Nat.le_refl _) _).alloc (by simp) _).alloc (by simp; omega) _).trans (hb.mono (by simp; omega))

set_option maxHeartbeats 400000 in
theorem sub_c (a0 a1 b0 b1 : Int) (w : World) (ha0 : U64 a0) (ha1 : U64 a1) (hb0 : U64 b0) (hb1 : U64 b1) :
    Calls Tryd.prog 59 #[.agg #[.int .u64 a0, .int .u64 a1], .agg #[.int .u64 b0, .int .u64 b1]] w (Ret w (IsAgg2Bool (SubR a0 a1 b0 b1))) := by
  by_cases h : v2 a0 a1 < v2 b0 b1
  · have hc : cmpI (v2 a0 a1) (v2 b0 b1) = -1 := by unfold cmpI; rw [if_neg (by omega), if_pos h]
    have H : SubR a0 a1 b0 b1 0 0 false := ⟨u64_0, u64_0, Or.inr ⟨h, rfl, rfl, rfl⟩⟩
    have HC := Lib.hid hc
    clear hc h
    go_enter Tryd.func59, Tryd.ntmps59
    go_wp2_with fail
    refine (cmp_c a0 a1 b0 b1 _ ha0 ha1 hb0 hb1).mono ?_
    rintro e w1 ⟨v, hv, rfl, hb⟩
    rw [IsInt, HC.out] at hv
    subst hv
    obtain ⟨hcl, hfr⟩ := bcell hb
    have hz := hb.size
    have hbw := below3 hb
    simp at hz hcl hfr
    go_wp2
    exact bodyPost_ret (v := .tuple #[.agg #[.int .u64 0, .int .u64 0], .bool false]) (by simp [results, Tryd.results59, go_sem, hcl]) rfl ⟨_, ⟨_, _, _, H, rfl⟩, rfl, (hbw.setCell (by simp; omega) _).setCell (by simp; omega) _⟩
  · obtain ⟨c, hc, hc0⟩ : ∃ c, cmpI (v2 a0 a1) (v2 b0 b1) = c ∧ 0 ≤ c := ⟨_, rfl, by unfold cmpI; split <;> simp <;> omega⟩
    have HC := Lib.hid hc
    clear hc
    go_enter Tryd.func59, Tryd.ntmps59
    go_wp2_with fail
    refine (cmp_c a0 a1 b0 b1 _ ha0 ha1 hb0 hb1).mono ?_
    rintro e w1 ⟨v, hv, rfl, hb⟩
    rw [IsInt, HC.out] at hv
    subst hv
    obtain ⟨hcl, hfr⟩ := bcell hb
    have hz := hb.size
    have hbw := below3 hb
    simp at hz hcl hfr
    go_wp2_with fail
    refine (wrapSub_c a0 a1 b0 b1 _ ha0 ha1 hb0 hb1).mono ?_
    rintro e w2 ⟨_, ⟨s0, s1, hs, rfl⟩, rfl, hb2⟩
    have H := subR_yes ha0 ha1 hb0 hb1 (by omega) hs
    obtain ⟨hcl2, hfr2⟩ := bcell hb2
    have hz2 := hb2.size
    have hbw2 := hbw.trans (hb2.mono hbw.size)
    have z0 : w.heap.size < w1.heap.size := by omega
    have z1 : w.heap.size + 1 < w1.heap.size := by omega
    have z2 : w.heap.size + 1 + 1 < w1.heap.size := by omega
    go_wp2
    exact bodyPost_ret (v := .tuple #[.agg #[.int .u64 s0, .int .u64 s1], .bool true]) (by simp [results, Tryd.results59, go_sem, hcl, hcl2, z2]) rfl ⟨_, ⟨_, _, _, H, rfl⟩, rfl, (hbw2.setCell (by simp; omega) _).setCell (by simp; omega) _⟩
end Go.Proofs.YtkaflkofffgndaaDoor

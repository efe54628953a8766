/- Contracts: Ten; the statements' own helpers. -/
import Derived.Test.YtkaflkofffgndaaDoorLimbH
namespace Go.Proofs.YtkaflkofffgndaaDoor
open Go.RowKit

theorem v4_inj {a b c d a' b' c' d' : Int} (ha : U64 a) (hb : U64 b) (hc : U64 c) (hd : U64 d) (ha' : U64 a') (hb' : U64 b') (hc' : U64 c') (hd' : U64 d') (h : v4 a b c d = v4 a' b' c' d') : a = a' ∧ b = b' ∧ c = c' ∧ d = d' := by
  unfold U64 at *
  unfold v4 v2 at h
  omega
theorem v2_inj {a b a' b' : Int} (ha : U64 a) (hb : U64 b) (ha' : U64 a') (hb' : U64 b') (h : v2 a b = v2 a' b') : a = a' ∧ b = b' := by
  unfold U64 at *
  unfold v2 at h
  omega
theorem v4_low {a b c d : Int} (ha : U64 a) (hb : U64 b) (hc : U64 c) (hd : U64 d) (h : v4 a b c d < 340282366920938463463374607431768211456) : c = 0 ∧ d = 0 ∧ v4 a b c d = v2 a b := by
  unfold U64 at *
  unfold v4 v2 at *
  omega

def TenR (k : Int) (s0 s1 : Int) (p : Bool) : Prop := U64 s0 ∧ U64 s1 ∧ (0 ≤ k ∧ k ≤ 38 ∧ p = true ∧ v2 s0 s1 = 10 ^ k.toNat ∨ ¬ (0 ≤ k ∧ k ≤ 38) ∧ p = false ∧ s0 = 0 ∧ s1 = 0)
def TenI (m : Nat) (a b : Int) : Prop := U64 a ∧ U64 b ∧ v2 a b = 10 ^ m
theorem u64_10 : U64 10 := by simp [U64]
theorem ten_le {m : Nat} (h : m ≤ 38) : 10 ^ m < 340282366920938463463374607431768211456 := by
  have : 10 ^ m ≤ 10 ^ 38 := Nat.pow_le_pow_right (by decide) h
  omega
theorem tenI_0 : TenI 0 1 0 := by simp [TenI, U64, v2]
theorem tenI_s {m : Nat} {a b x y z u s0 s1 : Int} {p : Bool} (hm : m < 38) (h : TenI m a b) (hm : MulR a b 10 0 x y z u) (hs : ShortR x y z u s0 s1 p) : TenI (m + 1) s0 s1 := by
  obtain ⟨_, _, e⟩ := h
  obtain ⟨u0, u1, u2, u3, e2⟩ := hm
  have e3 : v2 10 0 = 10 := by simp [v2]
  rw [e, e3, ← Nat.pow_succ] at e2
  have hl := ten_le (m := m + 1) (by omega)
  rw [← e2] at hl
  obtain ⟨hz, hu, hv⟩ := v4_low u0 u1 u2 u3 hl
  rw [hv] at e2
  rcases hs with ⟨_, _, rfl, rfl⟩ | ⟨hn, _⟩
  · exact ⟨u0, u1, e2⟩
  · exact absurd ⟨hz, hu⟩ hn

set_option maxHeartbeats 800000 in
theorem ten_no (k : Int) (w : World) (h : k < 0 ∨ 38 < k) :
    Calls Tryd.prog 29 #[.int .i64 k] w (Ret w (IsAgg2Bool (TenR k))) := by
  have H : TenR k 0 0 false := ⟨u64_0, u64_0, Or.inr ⟨by omega, rfl, rfl, rfl⟩⟩
  rcases h with h | h
  · go_enter Tryd.func29, Tryd.ntmps29
    go_wp2
    exact bodyPost_ret (v := .tuple #[.agg #[.int .u64 0, .int .u64 0], .bool false]) (by simp [results, Tryd.results29, go_sem]) rfl ⟨_, ⟨_, _, _, H, rfl⟩, rfl, (Below.refl _ _).alloc (Nat.le_refl _) _⟩
  · have h0 : 0 ≤ k := by omega
    go_enter Tryd.func29, Tryd.ntmps29
    go_wp2
    exact bodyPost_ret (v := .tuple #[.agg #[.int .u64 0, .int .u64 0], .bool false]) (by simp [results, Tryd.results29, go_sem]) rfl ⟨_, ⟨_, _, _, H, rfl⟩, rfl, (Below.refl _ _).alloc (Nat.le_refl _) _⟩

set_option maxHeartbeats 1600000 in
theorem ten_yes (k : Nat) (w : World) (h : k ≤ 38) :
    Calls Tryd.prog 29 #[.int .i64 k] w (Ret w (IsAgg2Bool (TenR k))) := by
  have hle : w.heap.size ≤ w.heap.size + 1 + 1 := by omega
  have g1 : decide ((k : Int) < 0) = false := by simp
  have g2 : decide (38 < (k : Int)) = false := by simp; omega
  go_enter Tryd.func29, Tryd.ntmps29
  go_wp2_with fail
  refine (of_x 1 _).mono ?_
  rintro e w1 ⟨rfl, rfl⟩
  go_wp2_with fail
  go_loopw [14] (fun j wr => ∃ (m : Nat) (a b : Int), m ≤ k ∧ j = .int .i64 m ∧ TenI m a b ∧ Blk wr w.heap.size 25 #[.int .u64 0, .int .u64 0] ∧ Blk wr (w.heap.size + 1 + 1) 25 #[.int .u64 a, .int .u64 b] ∧ Below w.heap.size w wr) (fun j _ => k - (intOf j).toNat)
  case atStart =>
    exact ⟨0, 1, 0, by omega, rfl, tenI_0, (by repeat (first | ((with_reducible refine Blk.new_at ?_); (simp; done)) | (with_reducible refine Blk.drew ?_) | (with_reducible refine Blk.alloc ?_ _))), (by repeat (first | ((with_reducible refine Blk.new_at ?_); (simp; done)) | (with_reducible refine Blk.drew ?_) | (with_reducible refine Blk.alloc ?_ _))), (by repeat (first | (with_reducible exact Below.refl _ _) | (with_reducible refine Below.drew ?_) | (with_reducible refine bel_alloc ?_ _)))⟩
  case round =>
    obtain ⟨m, a, b, hm, rfl, HT, B0, B4, HW⟩ := hrel
    by_cases hmk : m < k
    · have hu0 := HT.1
      have hu1 := HT.2.1
      have c0 := B4.cell 0
      have c1 := B4.cell 1
      simp at c0 c1
      go_upto_region 6 with fail
      go_region_with (first
          | (go_at_call 12; refine (of_x 10 _).mono ?_; rintro e w1 ⟨rfl, rfl⟩; have hz := B4.lt)
          | (go_at_call 17; refine (mul_c a b 10 0 _ hu0 hu1 u64_10 u64_0).mono ?_; rintro e w2 ⟨_, ⟨x, y, z, u, HM, rfl⟩, rfl, hb2⟩)
          | (go_at_call 16; refine (short_c _ _ _ _ _).mono ?_; rintro e w3 ⟨_, ⟨s0, s1, p, HS, rfl⟩, rfl, hb3⟩; have BB := (((B4.alloc _).drew).below hb2 (by have := B4.lt; simp; omega)).below hb3 (by have := hb2.size; have := B4.lt; simp at *; omega); have d0 := BB.cell 0; have d1 := BB.cell 1; have f0 := BB.frozen 0; have f1 := BB.frozen 1; simp at d0 d1))
      all_goals
        have BZ := ((B0.alloc (.cells #[.int .u64 10, .int .u64 0] 25)).drew.below hb2 (by have := B0.lt; simp; omega)).below hb3 (by have := hb2.size; have := B0.lt; simp at *; omega)
        have HZ := (((HW.alloc HW.size (.cells #[.int .u64 10, .int .u64 0] 25)).drew).trans (hb2.mono (by have := HW.size; simp; omega))).trans (hb3.mono (by have := hb2.size; have := HW.size; simp at *; omega))
        have HT2 := tenI_s (by omega) HT HM HS
        clear hb2 hb3 hz
        go_wp2
        go_roundw
        case rel =>
          refine ⟨m + 1, s0, s1, by omega, by go_num, HT2, (BZ.far (by simp; omega) _).far (by simp; omega) _, (BB.set_ 0 (.int .u64 s0)).set_ 1 (.int .u64 s1), ?_⟩
          exact (HZ.setCell (p := ⟨w.heap.size + 1 + 1, 0, none⟩) hle _).setCell (p := ⟨w.heap.size + 1 + 1, 1, none⟩) hle _
        case measure => simp [intOf]; omega
    · obtain rfl : m = k := by omega
      have H : TenR m a b true := ⟨HT.1, HT.2.1, Or.inl ⟨by omega, by omega, rfl, by rw [Int.toNat_natCast]; exact HT.2.2⟩⟩
      have c0 := B4.cell 0
      have c1 := B4.cell 1
      have d0 := B0.cell 0
      have d1 := B0.cell 1
      have f0 := B0.frozen 0
      have f1 := B0.frozen 1
      simp at c0 c1 d0 d1
      go_wp2
      exact bodyPost_ret (v := .tuple #[.agg #[.int .u64 a, .int .u64 b], .bool true]) (by simp [results, Tryd.results29, go_sem, d0, d1]) rfl ⟨_, ⟨_, _, _, H, rfl⟩, rfl, (HW.setCell (p := ⟨w.heap.size, 0, none⟩) (Nat.le_refl _) _).setCell (p := ⟨w.heap.size, 1, none⟩) (Nat.le_refl _) _⟩

theorem ten_c (k : Int) (w : World) : Calls Tryd.prog 29 #[.int .i64 k] w (Ret w (IsAgg2Bool (TenR k))) := by
  by_cases h : k < 0 ∨ 38 < k
  · exact ten_no k w h
  · obtain ⟨n, rfl⟩ := Int.eq_ofNat_of_zero_le (show 0 ≤ k by omega)
    exact ten_yes n w (by omega)
end Go.Proofs.YtkaflkofffgndaaDoor

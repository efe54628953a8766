/- Package roll: Append. -/
import Derived.Test.YtkjckdndkljeeaaRollI
namespace Go.Proofs.Ytkjckdndkljeeaa
open Go.RowKit
def ApE (T E : TypeId) (Sl' : World → Nat → Nat → Nat → Sst → Prop) (w : World) (B p g d n : Nat) (a z : Int) (A : Option Addr) (R : Sst × List Rec × Nat × Int) (e : Ending) (w' : World) : Prop :=
  e = .returned (.int .i64 R.2.2.2) ∧ ∃ A' c', Rl T E w' B p g a z A' c' R.2.1 R.2.2.1 ∧ Sl' w' g d n R.1 ∧ But (p :: g :: d :: rowOf A) w w'
theorem apS_arg {s : Sst} {n z u : Nat} {a q : Int} {L : List Rec} {t : List UInt8} (h : q ≤ lastB L ∨ 420 < t.length) : apS s n a z L u q t = (s, L, u, 1) := by
  unfold apS
  rw [if_pos h]
theorem apS_full {s : Sst} {n z u : Nat} {a q : Int} {L : List Rec} {t : List UInt8} (h : ¬ (q ≤ lastB L ∨ 420 < t.length)) (hz : z < u + (frameB u ⟨q, t⟩).length) : apS s n a z L u q t = (s, L, u, 5) := by
  unfold apS
  rw [if_neg h, if_pos hz]
theorem apS_on {s s' : Sst} {n z u : Nat} {a q : Int} {L : List Rec} {t : List UInt8} {β : Bool} (h : ¬ (q ≤ lastB L ∨ 420 < t.length)) (hz : ¬ z < u + (frameB u ⟨q, t⟩).length) (hw : wrS s n (a + (u : Int)) (frameB u ⟨q, t⟩) = (s', β)) :
    apS s n a z L u q t = if β = true then (s', L ++ [⟨q, t⟩], u + (frameB u ⟨q, t⟩).length, 0) else (s', L, u, 6) := by
  unfold apS
  rw [if_neg h, if_neg hz]
  simp only [hw]
set_option maxRecDepth 100000 in
set_option maxHeartbeats 3200000 in
theorem append_c {B p g d n u z c : Nat} {a : Int} {A : Option Addr} {L : List Rec} {s : Sst} (q : Int) (t : List UInt8) (K : Int) (w : World) (h : RlG w B p g a z A c L u) (hs : SlS w g d n s) (ho : s.Ok n K) (hK : K ≤ 1000000000000000000) (hz : z ≤ 8192) (huz : u ≤ z) (hLu : L.length ≤ u) (ha0 : 0 ≤ a) (ha : a ≤ 1000000)
    (hB : B ≤ w.heap.size) (h0 : 0 ≤ lastB L) (hq : q ≤ 9223372036854775807) (R : Sst × List Rec × Nat × Int) (hR : apS s n a z L u q t = R) :
    Calls Try.prog 11 #[.pointer (some ⟨p, 0, none⟩), .int .i64 q, .string ⟨t.toArray⟩] w (ApE 66 58 SlS w B p g d n a z A R) := by
  have H := Lib.hid h
  have HS := Lib.hid hs
  have HO := Lib.hid ho
  have HR := Lib.hid hR
  obtain ⟨lst, hl⟩ : ∃ x, lastB L = x := ⟨_, rfl⟩
  rw [hl] at h0
  have HL := Lib.hid hl
  have HX := Lib.hid (show g ∉ p :: rowOf A ∧ d ∉ p :: rowOf A from ⟨h.far hs.1 (by decide) (by decide), h.far hs.2.1 (by decide) (by decide)⟩)
  clear h hs ho hR hl
  go_enter Try.func11, Try.ntmps11
  go_wp2_with fail
  (with_reducible refine (last_c lst H.out HL.out (by omega)).mono ?_)
  rintro e w1 ⟨rfl, hb⟩
  have H1 := Lib.hid (H.out.below hb)
  have HS1 := Lib.hid (HS.out.below hb)
  have HB1 := Lib.hid hb
  clear hb H HS
  by_cases h1 : q ≤ lst
  · have HE := Lib.hid (show R = (s, L, u, 1) by rw [← HR.out, apS_arg (.inl (by rw [HL.out]; exact h1))])
    go_wp2
    go_ret
    rw [HE.out]
    exact ⟨rfl, A, c, H1.out, HS1.out, But.of_below HB1.out _⟩
  by_cases h2 : 420 < t.length
  · have h2' : (420 : Int) < (t.length : Int) := by omega
    have HE := Lib.hid (show R = (s, L, u, 1) by rw [← HR.out, apS_arg (.inr h2)])
    go_wp2
    go_ret
    rw [HE.out]
    exact ⟨rfl, A, c, H1.out, HS1.out, But.of_below HB1.out _⟩
  have h2' : ¬ (420 : Int) < (t.length : Int) := by omega
  have HNA := Lib.hid (show ¬ (q ≤ lastB L ∨ 420 < t.length) by rw [HL.out]; omega)
  go_wp2_with fail
  (with_reducible refine (strClone_c t _ (by omega)).mono ?_)
  rintro e w2 ⟨rfl, hb⟩
  have H2 := Lib.hid (H1.out.below hb)
  have HS2 := Lib.hid (HS1.out.below hb)
  have HB2 := Lib.hid (HB1.out.trans (hb.mono HB1.out.size))
  clear hb H1 HS1 HB1
  go_upto_region 4 with fail
  obtain ⟨k7, hk7⟩ : ∃ k, w2.heap.size = k := ⟨_, rfl⟩
  obtain ⟨V, hV⟩ : ∃ V, w2.alloc (.cells #[.int .i64 q, .string ⟨t.toArray⟩] 58) = V := ⟨_, rfl⟩
  have hA : Below w2.heap.size w2 V := by rw [← hV]; exact (Below.refl _ _).alloc (Nat.le_refl _) _
  have HK := Lib.hid (show Blk V k7 58 #[.int .i64 q, .string ⟨t.toArray⟩] by rw [← hV, ← hk7]; exact Blk.new _ _ _)
  have HKX := Lib.hid (show k7 ∉ [g, d] by have := HS2.out.lt; simp; omega)
  have HV := Lib.hid (H2.out.below hA)
  have HSV := Lib.hid (HS2.out.below hA)
  have HBV := Lib.hid (HB2.out.trans (hA.mono HB2.out.size))
  rw [hV, hk7]
  clear hV hk7 hA H2 HS2 HB2
  obtain ⟨nb, hnb⟩ : ∃ nb, (frameB u ⟨q, t⟩).length = nb := ⟨_, rfl⟩
  have HNB := Lib.hid hnb
  have hnb2 : nb ≤ 1000 := by have := (frameB_len' u ⟨q, t⟩).2; rw [hnb] at this; simp only at this; omega
  clear hnb
  go_cut [8] (fun v wx => ∃ gb cb, v = .slice (some ⟨gb, 0, none⟩) nb cb ∧ Bs wx wx.heap.size (some ⟨gb, 0, none⟩) nb cb (frameB u ⟨q, t⟩) ∧ Below V.heap.size V wx)
  case first =>
    as_aux_lemma =>
    have HBd := Lib.hid (show Below V.heap.size V V.drew from (Below.refl _ _).drew)
    refine wp_region_ord (S := fun W => Below V.heap.size V W) (by kernel_rfl) ?_
    refine ord_take (v := ?_) (i := 0) (fuel := 6) (by simp; rfl) (by kernel_rfl) (by kernel_rfl) (by kernel_rfl) (Or.inl ⟨by rfl, fun w' hSw => ?_⟩) HBd.out ?_
    rotate_left
    · dsimp only at hSw
      obtain ⟨lk, y0, y1⟩ := blk2 (HK.out.below hSw HK.out.lt)
      go_simp
      all_goals with_reducible rfl
    simp only [Act.put, List.setIfInBounds_toArray, List.set_cons_zero, List.set_cons_succ]
    refine ord_take (v := ?_) (i := 1) (fuel := 5) (by simp; rfl) (by kernel_rfl) (by kernel_rfl) (by kernel_rfl) (Or.inl ⟨by rfl, fun w' hSw => ?_⟩) HBd.out ?_
    rotate_left
    · go_simp
      all_goals with_reducible rfl
    simp only [Act.put, List.setIfInBounds_toArray, List.set_cons_zero, List.set_cons_succ]
    refine ord_take (v := ?_) (i := 2) (fuel := 4) (by simp; rfl) (by kernel_rfl) (by kernel_rfl) (by kernel_rfl) (Or.inl ⟨by rfl, fun w' hSw => ?_⟩) HBd.out ?_
    rotate_left
    · go_simp
      all_goals with_reducible rfl
    simp only [Act.put, List.setIfInBounds_toArray, List.set_cons_zero, List.set_cons_succ]
    refine ord_take (v := ?_) (i := 3) (fuel := 3) (by simp; rfl) (by kernel_rfl) (by kernel_rfl) (by kernel_rfl) (Or.inl ⟨by rfl, fun w' hSw => ?_⟩) HBd.out ?_
    rotate_left
    · go_simp
      all_goals with_reducible rfl
    simp only [Act.put, List.setIfInBounds_toArray, List.set_cons_zero, List.set_cons_succ]
    refine ord_take (v := ?_) (i := 4) (fuel := 2) (by simp; rfl) (by kernel_rfl) (by kernel_rfl) (by kernel_rfl) (Or.inl ⟨by rfl, fun w' hSw => ?_⟩) HBd.out ?_
    rotate_left
    · dsimp only at hSw
      obtain ⟨lp, x0, x1, x2, x3, x4⟩ := (HV.out.below hSw).cells
      go_simp
      all_goals with_reducible rfl
    simp only [Act.put, List.setIfInBounds_toArray, List.set_cons_zero, List.set_cons_succ]
    refine ord_call (f := 34) (args := #[.agg #[.int .i64 q, .string ⟨t.toArray⟩], .int .i64 (u : Int)]) (w1 := V.drew) (i := 5) (fuel := 1) (by simp; rfl) (by kernel_rfl) (by rfl) ?_ ?_
    · go_simp
      all_goals with_reducible rfl
    (with_reducible refine (laid_c q t u _ (by omega) hq (by omega) (by omega)).mono ?_)
    rintro e w3 ⟨gb, nx, cb, rfl, hO, hb⟩
    obtain rfl : nx = nb := by rw [← hO.len, HNB.out]
    have HB3 := Lib.hid (HBd.out.trans (hb.mono HBd.out.size))
    have HO3 := Lib.hid hO
    clear hO hb
    refine ⟨_, rfl, HB3.out, ?_⟩
    simp only [Act.put, List.setIfInBounds_toArray, List.set_cons_zero, List.set_cons_succ]
    refine ord_take (v := ?_) (i := 6) (fuel := 0) (by simp; rfl) (by kernel_rfl) (by kernel_rfl) (by kernel_rfl) (Or.inl ⟨by rfl, fun w' hSw => ?_⟩) HB3.out ?_
    rotate_left
    · go_simp
      all_goals with_reducible rfl
    simp only [Act.put, List.setIfInBounds_toArray, List.set_cons_zero, List.set_cons_succ]
    refine ord_done (by kernel_rfl) ?_ _
    go_wp2_with fail
    go_meet
    case rel => exact ⟨gb, cb, rfl, HO3.out.bs, HB3.out⟩
  case rest =>
    as_aux_lemma =>
    obtain ⟨gb, cb, rfl, hbs, hb⟩ := hcut
    obtain ⟨W, rfl⟩ : ∃ W : World, W = wc := ⟨_, rfl⟩
    have HBs := Lib.hid hbs
    have HW := Lib.hid (HV.out.below hb)
    have HSW := Lib.hid (HSV.out.below hb)
    have HKW := Lib.hid (HK.out.below hb HK.out.lt)
    have HBW := Lib.hid (HBV.out.trans (hb.mono HBV.out.size))
    clear hbs hb HV HSV HK HBV
    obtain ⟨lf, hlf⟩ : ∃ x : Int, (z : Int) - (u : Int) = x := ⟨_, rfl⟩
    have HLF := Lib.hid hlf
    go_wp2_with fail
    (with_reducible refine (left_c lf HW.out HLF.out (by omega) (by omega) (by omega)).mono ?_)
    rintro e w4 ⟨rfl, hb⟩
    have H4 := Lib.hid (HW.out.below hb)
    have HS4 := Lib.hid (HSW.out.below hb)
    have HK4 := Lib.hid (HKW.out.below hb HKW.out.lt)
    have HBs4 := Lib.hid ((HBs.out.below hb).more hb.size)
    have HB4 := Lib.hid (HBW.out.trans (hb.mono HBW.out.size))
    clear hb HW HSW HKW HBs HBW
    by_cases h3 : z < u + nb
    · have h3' : lf < (nb : Int) := by omega
      have HE := Lib.hid (show R = (s, L, u, 5) by rw [← HR.out, apS_full HNA.out (by rw [HNB.out]; exact h3)])
      clear hlf
      go_wp2
      go_ret
      rw [HE.out]
      exact ⟨rfl, A, c, H4.out, HS4.out, But.of_below HB4.out _⟩
    have h3' : ¬ lf < (nb : Int) := by omega
    clear hlf
    obtain ⟨s', β, hw⟩ : ∃ s' β, wrS s n (a + (u : Int)) (frameB u ⟨q, t⟩) = (s', β) := ⟨_, _, rfl⟩
    have HW := Lib.hid hw
    have HE := Lib.hid (show R = if β = true then (s', L ++ [⟨q, t⟩], u + nb, 0) else (s', L, u, 6) by rw [← HR.out, ← HNB.out, apS_on HNA.out (by rw [HNB.out]; exact h3) hw])
    clear hw
    have hwr : IntKind.i64.wrap (a + (u : Int)) = a + (u : Int) := by rw [IntKind.wrap_i64]; omega
    have HA9 := Lib.hid (show a + (u : Int) ≤ 9223372036854775807 by omega)
    go_upto_region 7 with fail
    go_cut [52] (fun v wx => v = .bool (!β) ∧ SlS wx g d n s' ∧ But [g, d] w4 wx)
    case first =>
      as_aux_lemma =>
      refine wp_region_ord (S := fun W => RlG W B p g a z A c L u) (by kernel_rfl) ?_
      refine ord_take (v := ?_) (i := 0) (fuel := 15) (by simp; rfl) (by kernel_rfl) (by kernel_rfl) (by kernel_rfl) (Or.inl ⟨by rfl, fun w' hSw => ?_⟩) H4.out.drew ?_
      rotate_left
      · go_simp
        all_goals with_reducible rfl
      simp only [Act.put, List.setIfInBounds_toArray, List.set_cons_zero, List.set_cons_succ]
      refine ord_take (v := ?_) (i := 1) (fuel := 14) (by simp; rfl) (by kernel_rfl) (by kernel_rfl) (by kernel_rfl) (Or.inl ⟨by rfl, fun w' hSw => ?_⟩) H4.out.drew ?_
      rotate_left
      · go_simp
        all_goals with_reducible rfl
      simp only [Act.put, List.setIfInBounds_toArray, List.set_cons_zero, List.set_cons_succ]
      refine ord_take (v := ?_) (i := 2) (fuel := 13) (by simp; rfl) (by kernel_rfl) (by kernel_rfl) (by kernel_rfl) (Or.inl ⟨by rfl, fun w' hSw => ?_⟩) H4.out.drew ?_
      rotate_left
      · go_simp
        all_goals with_reducible rfl
      simp only [Act.put, List.setIfInBounds_toArray, List.set_cons_zero, List.set_cons_succ]
      refine ord_take (v := ?_) (i := 3) (fuel := 12) (by simp; rfl) (by kernel_rfl) (by kernel_rfl) (by kernel_rfl) (Or.inl ⟨by rfl, fun w' hSw => ?_⟩) H4.out.drew ?_
      rotate_left
      · dsimp only at hSw
        obtain ⟨lp, x0, x1, x2, x3, x4⟩ := hSw.cells
        go_simp
        all_goals with_reducible rfl
      simp only [Act.put, List.setIfInBounds_toArray, List.set_cons_zero, List.set_cons_succ]
      refine ord_take (v := ?_) (i := 4) (fuel := 11) (by simp; rfl) (by kernel_rfl) (by kernel_rfl) (by kernel_rfl) (Or.inl ⟨by rfl, fun w' hSw => ?_⟩) H4.out.drew ?_
      rotate_left
      · go_simp
        all_goals with_reducible rfl
      simp only [Act.put, List.setIfInBounds_toArray, List.set_cons_zero, List.set_cons_succ]
      refine ord_take (v := ?_) (i := 5) (fuel := 10) (by simp; rfl) (by kernel_rfl) (by kernel_rfl) (by kernel_rfl) (Or.inl ⟨by rfl, fun w' hSw => ?_⟩) H4.out.drew ?_
      rotate_left
      · go_simp
        all_goals with_reducible rfl
      simp only [Act.put, List.setIfInBounds_toArray, List.set_cons_zero, List.set_cons_succ]
      refine ord_take (v := ?_) (i := 6) (fuel := 9) (by simp; rfl) (by kernel_rfl) (by kernel_rfl) (by kernel_rfl) (Or.inl ⟨by rfl, fun w' hSw => ?_⟩) H4.out.drew ?_
      rotate_left
      · go_simp
        all_goals with_reducible rfl
      simp only [Act.put, List.setIfInBounds_toArray, List.set_cons_zero, List.set_cons_succ]
      refine ord_take (v := ?_) (i := 7) (fuel := 8) (by simp; rfl) (by kernel_rfl) (by kernel_rfl) (by kernel_rfl) (Or.inl ⟨by rfl, fun w' hSw => ?_⟩) H4.out.drew ?_
      rotate_left
      · dsimp only at hSw
        obtain ⟨lp, x0, x1, x2, x3, x4⟩ := hSw.cells
        go_simp
        all_goals with_reducible rfl
      simp only [Act.put, List.setIfInBounds_toArray, List.set_cons_zero, List.set_cons_succ]
      refine ord_take (v := ?_) (i := 8) (fuel := 7) (by simp; rfl) (by kernel_rfl) (by kernel_rfl) (by kernel_rfl) (Or.inl ⟨by rfl, fun w' hSw => ?_⟩) H4.out.drew ?_
      rotate_left
      · go_simp
        all_goals with_reducible rfl
      simp only [Act.put, List.setIfInBounds_toArray, List.set_cons_zero, List.set_cons_succ]
      refine ord_take (v := ?_) (i := 9) (fuel := 6) (by simp; rfl) (by kernel_rfl) (by kernel_rfl) (by kernel_rfl) (Or.inl ⟨by rfl, fun w' hSw => ?_⟩) H4.out.drew ?_
      rotate_left
      · go_simp
        all_goals with_reducible rfl
      simp only [Act.put, List.setIfInBounds_toArray, List.set_cons_zero, List.set_cons_succ]
      refine ord_take (v := ?_) (i := 10) (fuel := 5) (by simp; rfl) (by kernel_rfl) (by kernel_rfl) (by kernel_rfl) (Or.inl ⟨by rfl, fun w' hSw => ?_⟩) H4.out.drew ?_
      rotate_left
      · go_simp
        all_goals with_reducible rfl
      simp only [Act.put, List.setIfInBounds_toArray, List.set_cons_zero, List.set_cons_succ]
      refine ord_take (v := ?_) (i := 11) (fuel := 4) (by simp; rfl) (by kernel_rfl) (by kernel_rfl) (by kernel_rfl) (Or.inl ⟨by rfl, fun w' hSw => ?_⟩) H4.out.drew ?_
      rotate_left
      · dsimp only at hSw
        obtain ⟨lp, x0, x1, x2, x3, x4⟩ := hSw.cells
        go_simp
        all_goals with_reducible rfl
      simp only [Act.put, List.setIfInBounds_toArray, List.set_cons_zero, List.set_cons_succ]
      refine ord_take (v := ?_) (i := 12) (fuel := 3) (by simp; rfl) (by kernel_rfl) (by kernel_rfl) (by kernel_rfl) (Or.inl ⟨by rfl, fun w' hSw => ?_⟩) H4.out.drew ?_
      rotate_left
      · go_simp
        all_goals with_reducible rfl
      simp only [Act.put, List.setIfInBounds_toArray, List.set_cons_zero, List.set_cons_succ]
      refine ord_take (v := ?_) (i := 13) (fuel := 2) (by simp; rfl) (by kernel_rfl) (by kernel_rfl) (by kernel_rfl) (Or.inl ⟨by rfl, fun w' hSw => ?_⟩) H4.out.drew ?_
      rotate_left
      · go_simp
        all_goals with_reducible rfl
      simp only [Act.put, List.setIfInBounds_toArray, List.set_cons_zero, List.set_cons_succ]
      clear hwr
      have HS4d := Lib.hid (show SlS w4.drew g d n s from HS4.out)
      have HBs4d := Lib.hid (show Bs w4.drew w4.drew.heap.size (some ⟨gb, 0, none⟩) nb cb (frameB u ⟨q, t⟩) from HBs4.out)
      refine ord_call (f := 20) (args := #[.pointer (some ⟨g, 0, none⟩), .int .i64 (a + (u : Int)), .slice (some ⟨gb, 0, none⟩) nb cb]) (w1 := w4.drew) (i := 14) (fuel := 1) (by simp; rfl) (by kernel_rfl) (by rfl) ?_ ?_
      · go_simp
        all_goals with_reducible rfl
      (with_reducible refine (write_w (a + (u : Int)) _ nb cb _ K HW.out HS4d.out HBs4d.out HO.out (by omega) HA9.out).mono ?_)
      rintro e w5 ⟨rfl, hs2, hb2⟩
      have HS5 := Lib.hid hs2
      have HB5 := Lib.hid (((But.refl [g, d] w4).drew).trans hb2)
      have H5 := Lib.hid (H4.out.slab HX.out.1 HX.out.2 HB5.out)
      clear hs2 hb2
      refine ⟨_, rfl, H5.out, ?_⟩
      simp only [Act.put, List.setIfInBounds_toArray, List.set_cons_zero, List.set_cons_succ]
      refine ord_take (v := ?_) (i := 15) (fuel := 0) (by simp; rfl) (by kernel_rfl) (by kernel_rfl) (by kernel_rfl) (Or.inl ⟨by rfl, fun w' hSw => ?_⟩) H5.out ?_
      rotate_left
      · go_simp
        all_goals with_reducible rfl
      simp only [Act.put, List.setIfInBounds_toArray, List.set_cons_zero, List.set_cons_succ]
      refine ord_done (by kernel_rfl) ?_ _
      go_wp2_with fail
      go_meet
      case rel => exact ⟨rfl, HS5.out, HB5.out⟩
    case rest =>
      as_aux_lemma =>
      obtain ⟨rfl, hs2, hb2⟩ := hcut
      obtain ⟨w5, rfl⟩ : ∃ W : World, W = wc := ⟨_, rfl⟩
      have HS5 := Lib.hid hs2
      have H5 := Lib.hid (H4.out.slab HX.out.1 HX.out.2 hb2)
      have HK5 := Lib.hid (HK4.out.but hb2 HKX.out)
      have HB5 := Lib.hid ((But.of_below HB4.out [g, d]).trans hb2)
      clear hs2 hb2 hwr HK4 H4 HS4 HBs4
      cases β with
      | false =>
        go_wp2
        go_ret
        rw [HE.out]
        exact ⟨rfl, A, c, H5.out, HS5.out, HB5.out.more (by intro k hk; simp only [List.mem_cons, List.not_mem_nil, or_false] at hk ⊢; rcases hk with rfl | rfl; exact .inr (.inl rfl); exact .inr (.inr (.inl rfl)))⟩
      | true =>
        obtain ⟨lk, y0, y1⟩ := blk2 HK5.out
        have hB5 : B ≤ w5.heap.size := by have := HB5.out.size; omega
        go_wp2_with fail
        (with_reducible refine (add_c q t nb H5.out (by omega) hB5 (by omega) (by omega)).mono ?_)
        rintro e w6 ⟨rfl, A2, c2, hr, hb⟩
        have H6 := Lib.hid hr
        have HS6 := Lib.hid (HS5.out.but hb HX.out.1 HX.out.2)
        have HB6 := Lib.hid ((HB5.out.more (ex' := p :: g :: d :: rowOf A) (by intro k hk; simp only [List.mem_cons, List.not_mem_nil, or_false] at hk ⊢; rcases hk with rfl | rfl; exact .inr (.inl rfl); exact .inr (.inr (.inl rfl)))).trans (hb.more (by intro k hk; simp only [List.mem_cons] at hk ⊢; rcases hk with rfl | hk; exact .inl rfl; exact .inr (.inr (.inr hk)))))
        clear hr hb
        go_wp2
        go_ret
        rw [HE.out]
        exact ⟨rfl, A2, c2, H6.out, HS6.out, HB6.out⟩
end Go.Proofs.Ytkjckdndkljeeaa

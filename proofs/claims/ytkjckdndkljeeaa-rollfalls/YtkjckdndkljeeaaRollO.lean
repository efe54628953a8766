/- Package roll: RollKnown. -/
import Derived.Test.YtkjckdndkljeeaaRollN
namespace Go.Proofs.Ytkjckdndkljeeaa
open Go.RowKit
theorem St.cut {s : Sst} {n a z u : Nat} {L : List Rec} {K : Int} (h : St s n a z u L K) (m t : Int) (hm : m ≤ 9223372036854775807) : St (cutS s m t) n a z u L (K + 1) :=
  ⟨cutS_ok h.ok t hm, h.fit, h.small, h.live, h.rg, h.recs, h.len, h.le⟩
theorem St.rev {s : Sst} {n a z u : Nat} {L : List Rec} {K : Int} (h : St s n a z u L K) : St (revS s) n a z u L (K + 1) :=
  ⟨revS_ok h.ok, h.fit, h.small, rfl, h.rg, h.recs, h.len, h.le⟩
theorem apS_low {s : Sst} {n z u : Nat} {a q : Int} {L : List Rec} {t : List UInt8} {x : Int} (hx : lastB L = x) (h : q ≤ x) : apS s n a z L u q t = (s, L, u, 1) := apS_arg (.inl (by rw [hx]; exact h))
theorem cutS_w {w : World} {g d n : Nat} {s : Sst} (m t : Int) (h : SlS w g d n s) : Calls Try.prog 12 #[.pointer (some ⟨g, 0, none⟩), .int .i64 m, .int .i64 t] w fun e w' => e = .returned (.tuple #[]) ∧ SlS w' g d n (cutS s m t) ∧ But [g] w w' := cut_all m t h
theorem revS_w {w : World} {g d n : Nat} {s : Sst} (h : SlS w g d n s) : Calls Try.prog 14 #[.pointer (some ⟨g, 0, none⟩)] w fun e w' => e = .returned (.tuple #[]) ∧ SlS w' g d n (revS s) ∧ But [g] w w' := revive_all h
set_option maxRecDepth 100000 in
set_option maxHeartbeats 6400000 in
theorem rollKnown_c (w : World) : Calls Try.prog 3 #[] w fun e w' => e = .returned (.bool true) ∧ Below w.heap.size w w' := by
  have hS0 : St ⟨List.replicate 100 0, 0, false, false, 0, 0⟩ 100 0 60 0 [] 0 := St.new rfl (ok_new 100) (by omega) (by omega) rfl
  have hf1 : (frameB 0 ⟨2, [120]⟩).length = 21 := frame_len _ _ (by decide)
  have hf2 : (frameB 21 ⟨3, [49, 50, 51, 52, 53, 54, 55, 56, 57, 48, 49, 50, 51, 52, 53, 54, 55, 56]⟩).length = 38 := frame_len _ _ (by decide)
  obtain ⟨s1, hA1, hS1, hc1, _⟩ := hS0.append (q := 2) (t := [120]) rfl (by decide) (by decide) (by decide) (by rw [hf1]; omega)
  rw [Nat.zero_add, hf1] at hA1 hS1
  rw [List.nil_append] at hA1 hS1
  obtain ⟨s2, hA2, hS2, _, _⟩ := hS1.append (q := 3) (t := [49, 50, 51, 52, 53, 54, 55, 56, 57, 48, 49, 50, 51, 52, 53, 54, 55, 56]) hc1 (by decide) (by decide) (by decide) (by rw [hf2]; omega)
  rw [hf2] at hA2 hS2
  obtain ⟨L2, hL2⟩ : ∃ L2, ([⟨2, [120]⟩] ++ [⟨3, [49, 50, 51, 52, 53, 54, 55, 56, 57, 48, 49, 50, 51, 52, 53, 54, 55, 56]⟩] : List Rec) = L2 := ⟨_, rfl⟩
  have hl2 : lastB L2 = 3 := by rw [← hL2]; rfl
  have hn2 : L2.length = 2 := by rw [← hL2]; rfl
  rw [hL2] at hA2 hS2
  have HA1 := Lib.hid hA1
  have HA2 := Lib.hid hA2
  have HS0 := Lib.hid hS0
  have HS1 := Lib.hid hS1
  have HT2 := Lib.hid hS2
  have HT3 := Lib.hid (hS2.cut 0 20 (by decide))
  have HT4 := Lib.hid (HT3.out.rev)
  have HO0 := Lib.hid hS0.open_
  have HO3 := Lib.hid HT3.out.open_
  have HO4 := Lib.hid HT4.out.open_
  have HA0 := Lib.hid (apS_low (s := ⟨List.replicate 100 0, 0, false, false, 0, 0⟩) (n := 100) (z := 60) (u := 0) (a := ((0 : Nat) : Int)) (q := 0) (t := [120]) (L := []) (x := 0) rfl (by decide))
  have HA3 := Lib.hid (apS_low (s := s1) (n := 100) (z := 60) (u := 21) (a := ((0 : Nat) : Int)) (q := 2) (t := [121]) (L := [⟨2, [120]⟩]) (x := 2) rfl (by decide))
  obtain ⟨T, hT⟩ : ∃ T, List.replicate 421 (0 : UInt8) = T := ⟨_, rfl⟩
  have HT421 := Lib.hid hT
  clear hT
  have HA5 := Lib.hid (apS_low (s := s2) (n := 100) (z := 60) (u := 59) (a := ((0 : Nat) : Int)) (q := 3) (t := T) hl2 (by decide))
  have HA6 := Lib.hid (apS_low (s := cutS s2 0 20) (n := 100) (z := 60) (u := 59) (a := ((0 : Nat) : Int)) (q := 3) (t := [122]) hl2 (by decide))
  have HL2 := Lib.hid hl2
  have HN2 := Lib.hid hn2
  clear hS0 hA1 hA2 hS1 hS2 hc1 hf1 hf2 hL2 hl2 hn2
  go_enter Try.func3, Try.ntmps3
  go_wp2_with fail
  (with_reducible refine (newS_e 100 100 _ (by omega)).mono ?_)
  rintro e w1 ⟨g, d, rfl, hs, hg, hd, hb⟩
  have HS := Lib.hid hs
  have HB := Lib.hid hb
  have HG := Lib.hid (show w.heap.size ≤ g ∧ w.heap.size ≤ d from ⟨hg, hd⟩)
  clear hs hg hd hb
  go_wp2_with fail
  (with_reducible refine (open_v 0 60 [] 0 0 0 HO0.out HS.out HS0.out.ok (by omega) 0 60 rfl rfl (by omega)).mono ?_)
  rintro e w2 ⟨p, A, c, rfl, hp, hr, hs, hb⟩
  obtain ⟨N, hN⟩ : ∃ N, w1.heap.size = N := ⟨_, rfl⟩
  rw [hN] at hr
  have HR2 := Lib.hid hr
  have HS2 := Lib.hid hs
  have HB2 := Lib.hid (but_new HB.out hb HB.out.size (by simp; exact HG.out))
  have HP := Lib.hid (show w.heap.size ≤ p by have := HB.out.size; omega)
  have HW2 := Lib.hid (show w.heap.size ≤ N ∧ N ≤ w2.heap.size by rw [← hN]; exact ⟨HB.out.size, hb.size⟩)
  clear hp hr hs hb HS HB hN
  go_wp2_with fail
  (with_reducible refine (known7_c _).mono ?_)
  rintro e w3 ⟨rfl, hb⟩
  have HR3 := Lib.hid (HR2.out.below hb)
  have HS3 := Lib.hid (HS2.out.below hb)
  have HB3 := Lib.hid (HB2.out.trans (hb.mono HB2.out.size))
  have HW3 := Lib.hid (show w.heap.size ≤ N ∧ N ≤ w3.heap.size from ⟨HW2.out.1, Nat.le_trans HW2.out.2 hb.size⟩)
  clear hb HR2 HS2 HB2
  go_wp2_with fail
  (with_reducible refine (append_v 0 1 0 [120] _ HA0.out HR3.out HS3.out HS0.out.ok (by omega) (by omega) (by omega) (by have := HS0.out.count; omega) (by omega) HW3.out.2 HS0.out.last (by omega)).mono ?_)
  rintro e w4 ⟨rfl, A', c', hr, hs, hb⟩
  have HR4 := Lib.hid hr
  have HS4 := Lib.hid hs
  have HB4 := Lib.hid (but_new HB3.out hb HB3.out.size (rl_ex HR3.out HW3.out.1 HP.out HG.out.1 HG.out.2))
  have HW4 := Lib.hid (show w.heap.size ≤ N ∧ N ≤ w4.heap.size from ⟨HW3.out.1, Nat.le_trans HW3.out.2 hb.size⟩)
  clear hr hs hb HR3 HS3 HB3
  go_wp2_with fail
  (with_reducible refine (append_v 21 0 2 [120] _ HA1.out HR4.out HS4.out HS0.out.ok (by omega) (by omega) (by omega) (by have := HS0.out.count; omega) (by omega) HW4.out.2 HS0.out.last (by omega)).mono ?_)
  rintro e w5 ⟨rfl, A', c', hr, hs, hb⟩
  have HR5 := Lib.hid hr
  have HS5 := Lib.hid hs
  have HB5 := Lib.hid (but_new HB4.out hb HB4.out.size (rl_ex HR4.out HW4.out.1 HP.out HG.out.1 HG.out.2))
  have HW5 := Lib.hid (show w.heap.size ≤ N ∧ N ≤ w5.heap.size from ⟨HW4.out.1, Nat.le_trans HW4.out.2 hb.size⟩)
  clear hr hs hb HR4 HS4 HB4
  go_wp2_with fail
  (with_reducible refine (append_v 21 1 2 [121] _ HA3.out HR5.out HS5.out HS1.out.ok (by omega) (by omega) (by omega) (by have := HS1.out.count; omega) (by omega) HW5.out.2 HS1.out.last (by omega)).mono ?_)
  rintro e w6 ⟨rfl, A', c', hr, hs, hb⟩
  have HR6 := Lib.hid hr
  have HS6 := Lib.hid hs
  have HB6 := Lib.hid (but_new HB5.out hb HB5.out.size (rl_ex HR5.out HW5.out.1 HP.out HG.out.1 HG.out.2))
  have HW6 := Lib.hid (show w.heap.size ≤ N ∧ N ≤ w6.heap.size from ⟨HW5.out.1, Nat.le_trans HW5.out.2 hb.size⟩)
  clear hr hs hb HR5 HS5 HB5
  go_wp2_with fail
  (with_reducible refine (append_v 59 0 3 [49, 50, 51, 52, 53, 54, 55, 56, 57, 48, 49, 50, 51, 52, 53, 54, 55, 56] _ HA2.out HR6.out HS6.out HS1.out.ok (by omega) (by omega) (by omega) (by have := HS1.out.count; omega) (by omega) HW6.out.2 HS1.out.last (by omega)).mono ?_)
  rintro e w7 ⟨rfl, A', c', hr, hs, hb⟩
  have HR7 := Lib.hid hr
  have HS7 := Lib.hid hs
  have HB7 := Lib.hid (but_new HB6.out hb HB6.out.size (rl_ex HR6.out HW6.out.1 HP.out HG.out.1 HG.out.2))
  have HW7 := Lib.hid (show w.heap.size ≤ N ∧ N ≤ w7.heap.size from ⟨HW6.out.1, Nat.le_trans HW6.out.2 hb.size⟩)
  clear hr hs hb HR6 HS6 HB6
  have hmk := run_make_row' (P := Try.prog) 30 5 (.int .u8 0) 1 Try.u42 Try.i8 rfl .i64 .i64 421 (by omega) (by omega) w7
  rw [show ((421 : Nat) : Int) = 421 from rfl] at hmk
  obtain ⟨k8, hk8⟩ : ∃ k, w7.heap.size = k := ⟨_, rfl⟩
  obtain ⟨w8, hw8⟩ : ∃ V, w7.alloc (.cells (madeCells #[Value.int .u8 0] 421) 5) = V := ⟨_, rfl⟩
  have hb : Below w7.heap.size w7 w8 := by rw [← hw8]; exact (Below.refl _ _).alloc (Nat.le_refl _) _
  have hz := row_zeros w7 421
  rw [hk8, hw8] at hmk hz
  rw [HT421.out] at hz
  have hq := str_run (hz.bs (n := 421) (by rw [← HT421.out, List.length_replicate]))
  have HR8 := Lib.hid (HR7.out.below hb)
  have HS8 := Lib.hid (HS7.out.below hb)
  have HB8 := Lib.hid (HB7.out.trans (hb.mono HB7.out.size))
  have HW8 := Lib.hid (show w.heap.size ≤ N ∧ N ≤ w8.heap.size from ⟨HW7.out.1, Nat.le_trans HW7.out.2 hb.size⟩)
  clear hb hz hk8 hw8 HR7 HS7 HB7
  go_wp2_with fail
  (with_reducible refine (append_v 59 1 3 T _ HA5.out HR8.out HS8.out HT2.out.ok (by omega) (by omega) (by omega) (by have := HT2.out.count; omega) (by omega) HW8.out.2 HT2.out.last (by omega)).mono ?_)
  rintro e w9 ⟨rfl, A', c', hr, hs, hb⟩
  have HR9 := Lib.hid hr
  have HS9 := Lib.hid hs
  have HB9 := Lib.hid (but_new HB8.out hb HB8.out.size (rl_ex HR8.out HW8.out.1 HP.out HG.out.1 HG.out.2))
  have HW9 := Lib.hid (show w.heap.size ≤ N ∧ N ≤ w9.heap.size from ⟨HW8.out.1, Nat.le_trans HW8.out.2 hb.size⟩)
  clear hr hs hb HR8 HS8 HB8
  clear hmk hq
  go_wp2_with fail
  (with_reducible refine (cutS_w 0 20 HS9.out).mono ?_)
  rintro e w10 ⟨rfl, hs, hb⟩
  have HX := Lib.hid (show g ∉ p :: rowOf _ ∧ d ∉ p :: rowOf _ from ⟨HR9.out.far HS9.out.1 (by decide) (by decide), HR9.out.far HS9.out.2.1 (by decide) (by decide)⟩)
  have HS10 := Lib.hid hs
  have HR10 := Lib.hid (HR9.out.slab HX.out.1 HX.out.1 (hb.more (by simp)))
  have HB10 := Lib.hid (but_new HB9.out hb HB9.out.size (by simp; exact HG.out.1))
  have HW10 := Lib.hid (show w.heap.size ≤ N ∧ N ≤ w10.heap.size from ⟨HW9.out.1, Nat.le_trans HW9.out.2 hb.size⟩)
  clear hs hb HR9 HS9 HB9
  go_wp2_with fail
  (with_reducible refine (append_v 59 1 3 [122] _ HA6.out HR10.out HS10.out HT3.out.ok (by omega) (by omega) (by omega) (by have := HT3.out.count; omega) (by omega) HW10.out.2 HT3.out.last (by omega)).mono ?_)
  rintro e w11 ⟨rfl, A', c', hr, hs, hb⟩
  have HR11 := Lib.hid hr
  have HS11 := Lib.hid hs
  have HB11 := Lib.hid (but_new HB10.out hb HB10.out.size (rl_ex HR10.out HW10.out.1 HP.out HG.out.1 HG.out.2))
  have HW11 := Lib.hid (show w.heap.size ≤ N ∧ N ≤ w11.heap.size from ⟨HW10.out.1, Nat.le_trans HW10.out.2 hb.size⟩)
  clear hr hs hb HR10 HS10 HB10
  go_wp2_with fail
  (with_reducible refine (records_c 2 HR11.out HN2.out (by omega)).mono ?_)
  rintro e w12 ⟨Ax, cx, rfl, _, hb⟩
  have HS12 := Lib.hid (HS11.out.below hb)
  have HB12 := Lib.hid (HB11.out.trans (hb.mono HB11.out.size))
  clear hb HR11 HS11 HB11 HX
  go_wp2_with fail
  (with_reducible refine (open_v 0 60 L2 59 _ 0 HO3.out HS12.out HT3.out.ok (by omega) 0 60 rfl rfl (by omega)).mono ?_)
  rintro e w13 ⟨p3, A3, c3, rfl, _, _, hs, hb⟩
  have HS13 := Lib.hid hs
  have HB13 := Lib.hid (but_new HB12.out hb HB12.out.size (by simp; exact HG.out))
  clear hs hb HS12 HB12
  go_wp2_with fail
  (with_reducible refine (revS_w HS13.out).mono ?_)
  rintro e w14 ⟨rfl, hs, hb⟩
  have HS14 := Lib.hid hs
  have HB14 := Lib.hid (but_new HB13.out hb HB13.out.size (by simp; exact HG.out.1))
  clear hs hb HS13 HB13
  go_wp2_with fail
  (with_reducible refine (open_v 0 60 L2 59 _ 0 HO4.out HS14.out HT4.out.ok (by omega) 0 60 rfl rfl (by omega)).mono ?_)
  rintro e w15 ⟨p4, A4, c4, rfl, _, hr, hs, hb⟩
  have HS15 := Lib.hid hs
  have HR15 := Lib.hid hr
  have HB15 := Lib.hid (but_new HB14.out hb HB14.out.size (by simp; exact HG.out))
  have HX := Lib.hid (show g ∉ p4 :: rowOf A4 ∧ d ∉ p4 :: rowOf A4 from ⟨hr.far hs.1 (by decide) (by decide), hr.far hs.2.1 (by decide) (by decide)⟩)
  have HOK := Lib.hid HT4.out.ok
  clear hr hs hb HS14 HB14
  go_wp2_with fail
  (with_reducible refine (openNil_c 0 60 _).mono ?_)
  rintro e w' ⟨rfl, rfl⟩
  go_wp2_with fail
  (with_reducible refine (open_n 0 31 _ 1 (opS_bad (by decide)) HS15.out HOK.out (by omega) (by decide)).mono ?_)
  rintro e w16 ⟨rfl, hs, hb⟩
  have HS16 := Lib.hid hs
  have HR16 := Lib.hid (HR15.out.slab HX.out.1 HX.out.2 hb)
  have HB16 := Lib.hid (but_new HB15.out hb HB15.out.size (by simp; exact HG.out))
  clear hs hb HR15 HS15 HB15
  go_wp2_with fail
  (with_reducible refine (open_n 41 60 _ 1 (opS_bad (by decide)) HS16.out HOK.out (by omega) (by decide)).mono ?_)
  rintro e w17 ⟨rfl, hs, hb⟩
  have HS17 := Lib.hid hs
  have HR17 := Lib.hid (HR16.out.slab HX.out.1 HX.out.2 hb)
  have HB17 := Lib.hid (but_new HB16.out hb HB16.out.size (by simp; exact HG.out))
  clear hs hb HR16 HS16 HB16
  go_wp2_with fail
  (with_reducible refine (open_n (-1) 60 _ 1 (opS_bad (by decide)) HS17.out HOK.out (by omega) (by decide)).mono ?_)
  rintro e w18 ⟨rfl, hs, hb⟩
  have HS18 := Lib.hid hs
  have HR18 := Lib.hid (HR17.out.slab HX.out.1 HX.out.2 hb)
  have HB18 := Lib.hid (but_new HB17.out hb HB17.out.size (by simp; exact HG.out))
  clear hs hb HR17 HS17 HB17
  go_wp2_with fail
  (with_reducible refine (open_n 0 8193 _ 1 (opS_bad (by decide)) HS18.out HOK.out (by omega) (by decide)).mono ?_)
  rintro e w19 ⟨rfl, hs, hb⟩
  have HS19 := Lib.hid hs
  have HR19 := Lib.hid (HR18.out.slab HX.out.1 HX.out.2 hb)
  have HB19 := Lib.hid (but_new HB18.out hb HB18.out.size (by simp; exact HG.out))
  clear hs hb HR18 HS18 HB18
  go_wp2_with fail
  (with_reducible refine (readS_yes 21 39 21 39 HS19.out rfl rfl HT4.out.live (by omega)).mono ?_)
  rintro e w20 ⟨rfl, _, hb⟩
  have HR20 := Lib.hid (HR19.out.below hb)
  have HB20 := Lib.hid (HB19.out.trans (hb.mono HB19.out.size))
  clear hb HR19 HS19 HB19
  go_wp2_with fail
  (with_reducible refine (records_c 2 HR20.out HN2.out (by omega)).mono ?_)
  rintro e w21 ⟨Ay, cy, rfl, _, hb⟩
  have HR21 := Lib.hid (HR20.out.below hb)
  have HB21 := Lib.hid (HB20.out.trans (hb.mono HB20.out.size))
  clear hb HR20 HB20
  go_wp2_with fail
  (with_reducible refine (left_c 1 HR21.out (by decide) (by decide) (by decide) (by decide)).mono ?_)
  rintro e w22 ⟨rfl, hb⟩
  have HB22 := Lib.hid (HB21.out.trans (hb.mono HB21.out.size))
  clear hb
  go_wp2
  go_ret
  exact ⟨rfl, HB22.out⟩
end Go.Proofs.Ytkjckdndkljeeaa

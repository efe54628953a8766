/- Package roll's other in pyxref4: frame. -/
import Derived.Test.YtkjckdndkljeeaaRollB
namespace Go.Proofs.Ytkjckdndkljeeaa
open Go.RowKit
theorem tail_nest' (q : Int) (t : List UInt8) : be8 q.toNat ++ (enc (zig (t.length : Int)) ++ t) ++ [255] = tailB ⟨q, t⟩ := by
  unfold tailB
  simp only [List.append_assoc]
set_option maxRecDepth 100000 in
set_option maxHeartbeats 3200000 in
theorem frame_c (q : Int) (t : List UInt8) (o : Nat) (w : World) (hq0 : 0 ≤ q) (hq : q ≤ 9223372036854775807) (ho : o ≤ 9223372036854775807) (ht : t.length ≤ 1000) :
    Calls Try.prog 42 #[.int .i64 (o : Int), .agg #[.int .i64 q, .string ⟨t.toArray⟩]] w fun e w' => ∃ g n c, e = .returned (.slice (some ⟨g, 0, none⟩) n c) ∧ Own w' w.heap.size g n c (frameB o ⟨q, t⟩) ∧ Below w.heap.size w w' := by
  have hu : IntKind.u64.wrap q = q := by rw [IntKind.wrap_u64]; omega
  have hou : IntKind.u64.wrap (o : Int) = (o : Int) := by rw [IntKind.wrap_u64]; omega
  have HQN := Lib.hid (show q = (q.toNat : Int) by omega)
  have HQB := Lib.hid (show q.toNat < 18446744073709551616 by omega)
  go_enter Try.func42, Try.ntmps42
  go_upto_region 1 with fail
  obtain ⟨W, hW⟩ : ∃ W, w.alloc (.cells #[.int .i64 q, .string ⟨t.toArray⟩] 74) = W := ⟨_, rfl⟩
  have HK := Lib.hid (show Blk W w.heap.size 74 #[.int .i64 q, .string ⟨t.toArray⟩] by rw [← hW]; exact Blk.new _ _ _)
  have HB := Lib.hid (show Below w.heap.size w W by rw [← hW]; exact (Below.refl _ _).alloc (Nat.le_refl _) _)
  obtain ⟨k, hk⟩ : ∃ k, w.heap.size = k := ⟨_, rfl⟩
  have hkW : k < W.heap.size := by have := HK.out.lt; omega
  rw [hk] at HK
  rw [hW, hk]
  clear hW
  go_cut [5] (fun v wx => ∃ g n c, v = .slice (some ⟨g, 0, none⟩) n c ∧ Own wx W.heap.size g n c (tailB ⟨q, t⟩) ∧ Below W.heap.size W wx)
  case first =>
    as_aux_lemma =>
    have HBd := Lib.hid (show Below W.heap.size W W.drew from (Below.refl _ _).drew)
    refine wp_region_ord (S := fun V => Below W.heap.size W V) (by kernel_rfl) ?_
    refine ord_take (v := ?_) (i := 0) (fuel := 10) (by simp; rfl) (by kernel_rfl) (by kernel_rfl) (by kernel_rfl) (Or.inl ⟨by rfl, fun w' hSw => ?_⟩) HBd.out ?_
    rotate_left
    · go_simp
      all_goals with_reducible rfl
    simp only [Act.put, List.setIfInBounds_toArray, List.set_cons_zero, List.set_cons_succ]
    refine ord_take (v := ?_) (i := 1) (fuel := 9) (by simp; rfl) (by kernel_rfl) (by kernel_rfl) (by kernel_rfl) (Or.inl ⟨by rfl, fun w' hSw => ?_⟩) HBd.out ?_
    rotate_left
    · dsimp only at hSw
      have cc := (HK.out.below hSw hkW).cell 0
      simp at cc
      go_simp
      all_goals with_reducible rfl
    simp only [Act.put, List.setIfInBounds_toArray, List.set_cons_zero, List.set_cons_succ]
    refine ord_take (v := ?_) (i := 2) (fuel := 8) (by simp; rfl) (by kernel_rfl) (by kernel_rfl) (by kernel_rfl) (Or.inl ⟨by rfl, fun w' hSw => ?_⟩) HBd.out ?_
    rotate_left
    · go_simp
      all_goals with_reducible rfl
    simp only [Act.put, List.setIfInBounds_toArray, List.set_cons_zero, List.set_cons_succ]
    refine ord_take (v := ?_) (i := 4) (fuel := 7) (by simp; rfl) (by kernel_rfl) (by kernel_rfl) (by kernel_rfl) (Or.inl ⟨by rfl, fun w' hSw => ?_⟩) HBd.out ?_
    rotate_left
    · go_simp
      all_goals with_reducible rfl
    simp only [Act.put, List.setIfInBounds_toArray, List.set_cons_zero, List.set_cons_succ]
    refine ord_take (v := ?_) (i := 5) (fuel := 6) (by simp; rfl) (by kernel_rfl) (by kernel_rfl) (by kernel_rfl) (Or.inl ⟨by rfl, fun w' hSw => ?_⟩) HBd.out ?_
    rotate_left
    · dsimp only at hSw
      have cc := (HK.out.below hSw hkW).cell 1
      simp at cc
      go_simp
      all_goals with_reducible rfl
    simp only [Act.put, List.setIfInBounds_toArray, List.set_cons_zero, List.set_cons_succ]
    refine ord_two (i := 3) (j := 8) (fuel := 5) (by kernel_rfl) ?_ ?_
    · as_aux_lemma =>
      refine ordI_call (f := 50) (args := #[.int .u64 q]) (w1 := W.drew) (by simp; rfl) (by rfl) ?_ ?_
      · go_simp
        all_goals with_reducible rfl
      refine (refBytes_c q.toNat _ _ HQN.out HQB.out).mono ?_
      rintro e w1 ⟨rfl, hO, hb⟩
      have HB1 := Lib.hid (show Below W.heap.size W w1 from HBd.out.trans (hb.mono HBd.out.size))
      have HOw1 := Lib.hid (hO.base (show W.heap.size ≤ _ from HBd.out.size))
      obtain ⟨b1, hb1⟩ : ∃ b1, W.drew.heap.size = b1 := ⟨_, rfl⟩
      rw [hb1] at HOw1
      rw [hb1]
      clear hO hb hb1
      refine ⟨_, rfl, HB1.out, ?_⟩
      simp only [Act.put, List.setIfInBounds_toArray, List.set_cons_zero, List.set_cons_succ]
      refine ord_two (i := 6) (j := 8) (fuel := 4) (by kernel_rfl) ?_ ?_
      · as_aux_lemma =>
        refine ordI_call (f := 52) (args := #[.slice none 0 0, .string ⟨t.toArray⟩]) (w1 := w1) (by simp; rfl) (by rfl) ?_ ?_
        · go_simp
          all_goals with_reducible rfl
        refine (refText_c _ 0 0 [] t _ (Bs.nil_ _ _) (by omega)).mono ?_
        rintro e w2 ⟨n, g, c, rfl, hO, hb⟩
        have HB2 := Lib.hid (show Below W.heap.size W w2 from HB1.out.trans (hb.mono HB1.out.size))
        have HTw2 := Lib.hid hO
        have HOw2 := Lib.hid (HOw1.out.below hb HOw1.out.lt)
        clear hO hb
        refine ⟨_, rfl, HB2.out, ?_⟩
        simp only [Act.put, List.setIfInBounds_toArray, List.set_cons_zero, List.set_cons_succ]
        refine ord_two (i := 7) (j := 8) (fuel := 3) (by kernel_rfl) ?_ ?_
        · skip
          have hna : n ≤ 2000 := by
            have h1 := HTw2.out.len
            have h2 := enc_len (zig (t.length : Int))
            simp only [List.length_append, List.length_nil] at h1
            omega
          obtain ⟨ga, ca, w3, hrun, hOa, hga⟩ := app_own w2 HOw2.out HTw2.out.bs (not_none _) HB2.out.size (by omega) 30
          have HB3 := Lib.hid (HOw2.out.bel_grown hga HB2.out (Nat.le_refl _) HB2.out.size)
          have HOw3 := Lib.hid hOa
          refine ordI_only (v := .slice (some ⟨ga, 0, none⟩) (8 + n) ca) (w' := w3) (by simp; rfl) (by rfl) ?_ HB3.out ?_
          · refine (append_run (s := .tmp 10) (x := .tmp 13) (v := .slice (some ⟨b1, 0, none⟩) 8 8) (xv := .slice (some ⟨g, 0, none⟩) n c) rfl (by rfl) (by rfl) hrun).trans ?_
            with_reducible rfl
          simp only [Act.put, List.setIfInBounds_toArray, List.set_cons_zero, List.set_cons_succ]
          clear hrun hOa
          clear hga
          obtain ⟨k1, hk1⟩ : ∃ k1, w3.heap.size = k1 := ⟨_, rfl⟩
          obtain ⟨w4, hw3⟩ : ∃ V, w3.alloc (.cells #[.int .u8 255] 5) = V := ⟨_, rfl⟩
          have hA := (Below.refl w3.heap.size w3).alloc (Nat.le_refl _) (.cells #[.int .u8 255] 5)
          rw [hw3] at hA
          have HLw4 := Lib.hid (show Bs w4 w4.heap.size (some ⟨k1, 0, none⟩) 1 1 [255] by rw [← hw3, ← hk1]; exact bs_lit w3 _ lit255 rfl)
          have HKw4 := Lib.hid (show w3.heap.size ≤ k1 by omega)
          have HB4 := Lib.hid (HB3.out.trans (hA.mono HB3.out.size))
          have HOw4 := Lib.hid (HOw3.out.below hA HOw3.out.lt)
          clear hA
          refine ord_only (v := .slice (some ⟨k1, 0, none⟩) 1 1) (w' := w4) (i := 8) (fuel := 2) (by simp; rfl) (by kernel_rfl) (by rfl) ?_ HB4.out ?_
          · rw [← hw3, ← hk1]
            go_simp
            all_goals with_reducible rfl
          simp only [Act.put, List.setIfInBounds_toArray, List.set_cons_zero, List.set_cons_succ]
          obtain ⟨g', c', w5, hrun, hOb, hgb⟩ := app_own w4 HOw4.out HLw4.out (not_none _) HB4.out.size (by omega) 30
          have HB5 := Lib.hid (HOw4.out.bel_grown hgb HB4.out (Nat.le_refl _) HB4.out.size)
          have HOw5 := Lib.hid hOb
          clear hOb hgb
          refine ord_only (v := ?_) (w' := w5) (i := 9) (fuel := 1) (by simp; rfl) (by kernel_rfl) (by rfl) ?_ HB5.out ?_
          rotate_left
          · refine (append_run (s := .tmp 14) (x := .tmp 15) (v := .slice (some ⟨ga, 0, none⟩) (8 + n) ca) (xv := .slice (some ⟨k1, 0, none⟩) 1 1) rfl (by rfl) (by rfl) hrun).trans ?_
            with_reducible rfl
          simp only [Act.put, List.setIfInBounds_toArray, List.set_cons_zero, List.set_cons_succ]
          refine ord_take (v := ?_) (i := 10) (fuel := 0) (by simp; rfl) (by kernel_rfl) (by kernel_rfl) (by kernel_rfl) (Or.inl ⟨by rfl, fun w' hSw => ?_⟩) HB5.out ?_
          rotate_left
          · go_simp
            all_goals with_reducible rfl
          simp only [Act.put, List.setIfInBounds_toArray, List.set_cons_zero, List.set_cons_succ]
          refine ord_done (by kernel_rfl) ?_ _
          go_wp2_with fail
          go_meet
          case rel => exact ⟨g', _, c', rfl, by rw [← tail_nest', ← List.nil_append (enc (zig (t.length : Int)))]; exact HOw5.out, HB5.out⟩
        · skip
          obtain ⟨k1, hk1⟩ : ∃ k1, w2.heap.size = k1 := ⟨_, rfl⟩
          obtain ⟨w3, hw3⟩ : ∃ V, w2.alloc (.cells #[.int .u8 255] 5) = V := ⟨_, rfl⟩
          have hA := (Below.refl w2.heap.size w2).alloc (Nat.le_refl _) (.cells #[.int .u8 255] 5)
          rw [hw3] at hA
          have HLw3 := Lib.hid (show Bs w3 w3.heap.size (some ⟨k1, 0, none⟩) 1 1 [255] by rw [← hw3, ← hk1]; exact bs_lit w2 _ lit255 rfl)
          have HKw3 := Lib.hid (show w2.heap.size ≤ k1 by omega)
          have HB3 := Lib.hid (HB2.out.trans (hA.mono HB2.out.size))
          have HOw3 := Lib.hid (HOw2.out.below hA HOw2.out.lt)
          have HTw3 := Lib.hid (HTw2.out.below hA HTw2.out.lt)
          clear hA
          refine ordI_only (v := .slice (some ⟨k1, 0, none⟩) 1 1) (w' := w3) (by simp; rfl) (by rfl) ?_ HB3.out ?_
          · rw [← hw3, ← hk1]
            go_simp
            all_goals with_reducible rfl
          simp only [Act.put, List.setIfInBounds_toArray, List.set_cons_zero, List.set_cons_succ]
          have hna : n ≤ 2000 := by
            have h1 := HTw3.out.len
            have h2 := enc_len (zig (t.length : Int))
            simp only [List.length_append, List.length_nil] at h1
            omega
          obtain ⟨ga, ca, w4, hrun, hOa, hga⟩ := app_own w3 HOw3.out HTw3.out.bs (not_none _) HB3.out.size (by omega) 30
          have HB4 := Lib.hid (HOw3.out.bel_grown hga HB3.out (Nat.le_refl _) HB3.out.size)
          have HOw4 := Lib.hid hOa
          refine ord_only (v := .slice (some ⟨ga, 0, none⟩) (8 + n) ca) (w' := w4) (i := 7) (fuel := 2) (by simp; rfl) (by kernel_rfl) (by rfl) ?_ HB4.out ?_
          · refine (append_run (s := .tmp 10) (x := .tmp 13) (v := .slice (some ⟨b1, 0, none⟩) 8 8) (xv := .slice (some ⟨g, 0, none⟩) n c) rfl (by rfl) (by rfl) hrun).trans ?_
            with_reducible rfl
          simp only [Act.put, List.setIfInBounds_toArray, List.set_cons_zero, List.set_cons_succ]
          clear hrun hOa
          have HLw4 := Lib.hid ((HLw3.out.grown hga (by rintro _ e; cases e; have := HOw2.out.lt; have := HKw3.out; simp only; omega)).more hga.size)
          clear hga
          obtain ⟨g', c', w5, hrun, hOb, hgb⟩ := app_own w4 HOw4.out HLw4.out (not_none _) HB4.out.size (by omega) 30
          have HB5 := Lib.hid (HOw4.out.bel_grown hgb HB4.out (Nat.le_refl _) HB4.out.size)
          have HOw5 := Lib.hid hOb
          clear hOb hgb
          refine ord_only (v := ?_) (w' := w5) (i := 9) (fuel := 1) (by simp; rfl) (by kernel_rfl) (by rfl) ?_ HB5.out ?_
          rotate_left
          · refine (append_run (s := .tmp 14) (x := .tmp 15) (v := .slice (some ⟨ga, 0, none⟩) (8 + n) ca) (xv := .slice (some ⟨k1, 0, none⟩) 1 1) rfl (by rfl) (by rfl) hrun).trans ?_
            with_reducible rfl
          simp only [Act.put, List.setIfInBounds_toArray, List.set_cons_zero, List.set_cons_succ]
          refine ord_take (v := ?_) (i := 10) (fuel := 0) (by simp; rfl) (by kernel_rfl) (by kernel_rfl) (by kernel_rfl) (Or.inl ⟨by rfl, fun w' hSw => ?_⟩) HB5.out ?_
          rotate_left
          · go_simp
            all_goals with_reducible rfl
          simp only [Act.put, List.setIfInBounds_toArray, List.set_cons_zero, List.set_cons_succ]
          refine ord_done (by kernel_rfl) ?_ _
          go_wp2_with fail
          go_meet
          case rel => exact ⟨g', _, c', rfl, by rw [← tail_nest', ← List.nil_append (enc (zig (t.length : Int)))]; exact HOw5.out, HB5.out⟩
      · as_aux_lemma =>
        obtain ⟨k1, hk1⟩ : ∃ k1, w1.heap.size = k1 := ⟨_, rfl⟩
        obtain ⟨w2, hw3⟩ : ∃ V, w1.alloc (.cells #[.int .u8 255] 5) = V := ⟨_, rfl⟩
        have hA := (Below.refl w1.heap.size w1).alloc (Nat.le_refl _) (.cells #[.int .u8 255] 5)
        rw [hw3] at hA
        have HLw2 := Lib.hid (show Bs w2 w2.heap.size (some ⟨k1, 0, none⟩) 1 1 [255] by rw [← hw3, ← hk1]; exact bs_lit w1 _ lit255 rfl)
        have HKw2 := Lib.hid (show w1.heap.size ≤ k1 by omega)
        have HB2 := Lib.hid (HB1.out.trans (hA.mono HB1.out.size))
        have HOw2 := Lib.hid (HOw1.out.below hA HOw1.out.lt)
        have HNE := Lib.hid (show k1 ≠ b1 by have := HOw1.out.lt; have := HKw2.out; omega)
        clear hA
        refine ordI_only (v := .slice (some ⟨k1, 0, none⟩) 1 1) (w' := w2) (by simp; rfl) (by rfl) ?_ HB2.out ?_
        · rw [← hw3, ← hk1]
          go_simp
          all_goals with_reducible rfl
        simp only [Act.put, List.setIfInBounds_toArray, List.set_cons_zero, List.set_cons_succ]
        refine ord_call (f := 52) (args := #[.slice none 0 0, .string ⟨t.toArray⟩]) (w1 := w2) (i := 6) (fuel := 3) (by simp; rfl) (by kernel_rfl) (by rfl) ?_ ?_
        · go_simp
          all_goals with_reducible rfl
        refine (refText_c _ 0 0 [] t _ (Bs.nil_ _ _) (by omega)).mono ?_
        rintro e w3 ⟨n, g, c, rfl, hO, hb⟩
        have HB3 := Lib.hid (show Below W.heap.size W w3 from HB2.out.trans (hb.mono HB2.out.size))
        have HTw3 := Lib.hid hO
        have HOw3 := Lib.hid (HOw2.out.below hb HOw2.out.lt)
        have HLw3 := Lib.hid ((HLw2.out.below hb).more hb.size)
        clear hO hb
        refine ⟨_, rfl, HB3.out, ?_⟩
        simp only [Act.put, List.setIfInBounds_toArray, List.set_cons_zero, List.set_cons_succ]
        have hna : n ≤ 2000 := by
          have h1 := HTw3.out.len
          have h2 := enc_len (zig (t.length : Int))
          simp only [List.length_append, List.length_nil] at h1
          omega
        obtain ⟨ga, ca, w4, hrun, hOa, hga⟩ := app_own w3 HOw3.out HTw3.out.bs (not_none _) HB3.out.size (by omega) 30
        have HB4 := Lib.hid (HOw3.out.bel_grown hga HB3.out (Nat.le_refl _) HB3.out.size)
        have HOw4 := Lib.hid hOa
        refine ord_only (v := .slice (some ⟨ga, 0, none⟩) (8 + n) ca) (w' := w4) (i := 7) (fuel := 2) (by simp; rfl) (by kernel_rfl) (by rfl) ?_ HB4.out ?_
        · refine (append_run (s := .tmp 10) (x := .tmp 13) (v := .slice (some ⟨b1, 0, none⟩) 8 8) (xv := .slice (some ⟨g, 0, none⟩) n c) rfl (by rfl) (by rfl) hrun).trans ?_
          with_reducible rfl
        simp only [Act.put, List.setIfInBounds_toArray, List.set_cons_zero, List.set_cons_succ]
        clear hrun hOa
        have HLw4 := Lib.hid ((HLw3.out.grown hga (by rintro _ e; cases e; exact HNE.out)).more hga.size)
        clear hga
        obtain ⟨g', c', w5, hrun, hOb, hgb⟩ := app_own w4 HOw4.out HLw4.out (not_none _) HB4.out.size (by omega) 30
        have HB5 := Lib.hid (HOw4.out.bel_grown hgb HB4.out (Nat.le_refl _) HB4.out.size)
        have HOw5 := Lib.hid hOb
        clear hOb hgb
        refine ord_only (v := ?_) (w' := w5) (i := 9) (fuel := 1) (by simp; rfl) (by kernel_rfl) (by rfl) ?_ HB5.out ?_
        rotate_left
        · refine (append_run (s := .tmp 14) (x := .tmp 15) (v := .slice (some ⟨ga, 0, none⟩) (8 + n) ca) (xv := .slice (some ⟨k1, 0, none⟩) 1 1) rfl (by rfl) (by rfl) hrun).trans ?_
          with_reducible rfl
        simp only [Act.put, List.setIfInBounds_toArray, List.set_cons_zero, List.set_cons_succ]
        refine ord_take (v := ?_) (i := 10) (fuel := 0) (by simp; rfl) (by kernel_rfl) (by kernel_rfl) (by kernel_rfl) (Or.inl ⟨by rfl, fun w' hSw => ?_⟩) HB5.out ?_
        rotate_left
        · go_simp
          all_goals with_reducible rfl
        simp only [Act.put, List.setIfInBounds_toArray, List.set_cons_zero, List.set_cons_succ]
        refine ord_done (by kernel_rfl) ?_ _
        go_wp2_with fail
        go_meet
        case rel => exact ⟨g', _, c', rfl, by rw [← tail_nest', ← List.nil_append (enc (zig (t.length : Int)))]; exact HOw5.out, HB5.out⟩
    · as_aux_lemma =>
      obtain ⟨k1, hk1⟩ : ∃ k1, W.drew.heap.size = k1 := ⟨_, rfl⟩
      obtain ⟨w1, hw3⟩ : ∃ V, W.drew.alloc (.cells #[.int .u8 255] 5) = V := ⟨_, rfl⟩
      have hA := (Below.refl W.drew.heap.size W.drew).alloc (Nat.le_refl _) (.cells #[.int .u8 255] 5)
      rw [hw3] at hA
      have HLw1 := Lib.hid (show Bs w1 w1.heap.size (some ⟨k1, 0, none⟩) 1 1 [255] by rw [← hw3, ← hk1]; exact bs_lit W.drew _ lit255 rfl)
      have HKw1 := Lib.hid (show W.drew.heap.size ≤ k1 by omega)
      have HB1 := Lib.hid (HBd.out.trans (hA.mono HBd.out.size))
      clear hA
      refine ordI_only (v := .slice (some ⟨k1, 0, none⟩) 1 1) (w' := w1) (by simp; rfl) (by rfl) ?_ HB1.out ?_
      · rw [← hw3, ← hk1]
        go_simp
        all_goals with_reducible rfl
      simp only [Act.put, List.setIfInBounds_toArray, List.set_cons_zero, List.set_cons_succ]
      refine ord_call (f := 50) (args := #[.int .u64 q]) (w1 := w1) (i := 3) (fuel := 4) (by simp; rfl) (by kernel_rfl) (by rfl) ?_ ?_
      · go_simp
        all_goals with_reducible rfl
      have hk1b : k1 < w1.heap.size := by obtain ⟨g0, o0, e0, h0, _⟩ := HLw1.out.2.2.2 (by omega); cases e0; exact h0
      refine (refBytes_c q.toNat _ _ HQN.out HQB.out).mono ?_
      rintro e w2 ⟨rfl, hO, hb⟩
      have HB2 := Lib.hid (show Below W.heap.size W w2 from HB1.out.trans (hb.mono HB1.out.size))
      have HOw2 := Lib.hid (hO.base (show W.heap.size ≤ _ from HB1.out.size))
      obtain ⟨b1, hb1⟩ : ∃ b1, w1.heap.size = b1 := ⟨_, rfl⟩
      rw [hb1] at HOw2
      rw [hb1]
      have HNE := Lib.hid (show k1 ≠ b1 by omega)
      have HLw2 := Lib.hid ((HLw1.out.below hb).more hb.size)
      clear hO hb hb1
      refine ⟨_, rfl, HB2.out, ?_⟩
      simp only [Act.put, List.setIfInBounds_toArray, List.set_cons_zero, List.set_cons_succ]
      refine ord_call (f := 52) (args := #[.slice none 0 0, .string ⟨t.toArray⟩]) (w1 := w2) (i := 6) (fuel := 3) (by simp; rfl) (by kernel_rfl) (by rfl) ?_ ?_
      · go_simp
        all_goals with_reducible rfl
      refine (refText_c _ 0 0 [] t _ (Bs.nil_ _ _) (by omega)).mono ?_
      rintro e w3 ⟨n, g, c, rfl, hO, hb⟩
      have HB3 := Lib.hid (show Below W.heap.size W w3 from HB2.out.trans (hb.mono HB2.out.size))
      have HTw3 := Lib.hid hO
      have HOw3 := Lib.hid (HOw2.out.below hb HOw2.out.lt)
      have HLw3 := Lib.hid ((HLw2.out.below hb).more hb.size)
      clear hO hb
      refine ⟨_, rfl, HB3.out, ?_⟩
      simp only [Act.put, List.setIfInBounds_toArray, List.set_cons_zero, List.set_cons_succ]
      have hna : n ≤ 2000 := by
        have h1 := HTw3.out.len
        have h2 := enc_len (zig (t.length : Int))
        simp only [List.length_append, List.length_nil] at h1
        omega
      obtain ⟨ga, ca, w4, hrun, hOa, hga⟩ := app_own w3 HOw3.out HTw3.out.bs (not_none _) HB3.out.size (by omega) 30
      have HB4 := Lib.hid (HOw3.out.bel_grown hga HB3.out (Nat.le_refl _) HB3.out.size)
      have HOw4 := Lib.hid hOa
      refine ord_only (v := .slice (some ⟨ga, 0, none⟩) (8 + n) ca) (w' := w4) (i := 7) (fuel := 2) (by simp; rfl) (by kernel_rfl) (by rfl) ?_ HB4.out ?_
      · refine (append_run (s := .tmp 10) (x := .tmp 13) (v := .slice (some ⟨b1, 0, none⟩) 8 8) (xv := .slice (some ⟨g, 0, none⟩) n c) rfl (by rfl) (by rfl) hrun).trans ?_
        with_reducible rfl
      simp only [Act.put, List.setIfInBounds_toArray, List.set_cons_zero, List.set_cons_succ]
      clear hrun hOa
      have HLw4 := Lib.hid ((HLw3.out.grown hga (by rintro _ e; cases e; exact HNE.out)).more hga.size)
      clear hga
      obtain ⟨g', c', w5, hrun, hOb, hgb⟩ := app_own w4 HOw4.out HLw4.out (not_none _) HB4.out.size (by omega) 30
      have HB5 := Lib.hid (HOw4.out.bel_grown hgb HB4.out (Nat.le_refl _) HB4.out.size)
      have HOw5 := Lib.hid hOb
      clear hOb hgb
      refine ord_only (v := ?_) (w' := w5) (i := 9) (fuel := 1) (by simp; rfl) (by kernel_rfl) (by rfl) ?_ HB5.out ?_
      rotate_left
      · refine (append_run (s := .tmp 14) (x := .tmp 15) (v := .slice (some ⟨ga, 0, none⟩) (8 + n) ca) (xv := .slice (some ⟨k1, 0, none⟩) 1 1) rfl (by rfl) (by rfl) hrun).trans ?_
        with_reducible rfl
      simp only [Act.put, List.setIfInBounds_toArray, List.set_cons_zero, List.set_cons_succ]
      refine ord_take (v := ?_) (i := 10) (fuel := 0) (by simp; rfl) (by kernel_rfl) (by kernel_rfl) (by kernel_rfl) (Or.inl ⟨by rfl, fun w' hSw => ?_⟩) HB5.out ?_
      rotate_left
      · go_simp
        all_goals with_reducible rfl
      simp only [Act.put, List.setIfInBounds_toArray, List.set_cons_zero, List.set_cons_succ]
      refine ord_done (by kernel_rfl) ?_ _
      go_wp2_with fail
      go_meet
      case rel => exact ⟨g', _, c', rfl, by rw [← tail_nest', ← List.nil_append (enc (zig (t.length : Int)))]; exact HOw5.out, HB5.out⟩
  case rest =>
    as_aux_lemma =>
    obtain ⟨g, n, c, rfl, hO, hb⟩ := hcut
    obtain ⟨V, rfl⟩ : ∃ V : World, V = wc := ⟨_, rfl⟩
    have HO := Lib.hid hO
    have HBV := Lib.hid hb
    have hN : n = (tailB ⟨q, t⟩).length := hO.len.symm
    have hn2 : n ≤ 1100 := by
      have h1 := tailB_len ⟨q, t⟩
      have h2 := enc_len (zig (t.length : Int))
      simp only at h1
      omega
    have HN := Lib.hid hN
    have HC := Lib.hid (headB_cells n (by omega))
    have HSL := Lib.hid (show sumM o (tailB ⟨q, t⟩) < 18446744073709551616 from stp_lt _ _)
    clear hO hb hN
    go_wp2_with fail
    obtain ⟨h, hh⟩ : ∃ h, V.heap.size = h := ⟨_, rfl⟩
    obtain ⟨V1, hV1⟩ : ∃ V1, V.alloc (.cells #[.int .u8 (128 + (n : Int) / 128), .int .u8 (128 + (n : Int) % 128)] 5) = V1 := ⟨_, rfl⟩
    have hA : Below V.heap.size V V1 := by rw [← hV1]; exact (Below.refl _ _).alloc (Nat.le_refl _) _
    have HH := Lib.hid (show Own V1 W.heap.size h 2 2 (headB n) by
      have := own_lit V HC.out (n := 2) rfl (by omega)
      rw [hV1, hh] at this
      exact this.base (by rw [← hh]; exact HBV.out.size))
    have HG := Lib.hid (show g ≠ h by have := HO.out.lt; omega)
    have HO1 := Lib.hid (HO.out.below hA HO.out.lt)
    have HB1 := Lib.hid (HBV.out.trans (hA.mono HBV.out.size))
    rw [hV1, hh]
    clear hV1 hh hA HO HBV
    (with_reducible refine (refSum_c o _ _ n c (tailB ⟨q, t⟩) _ _ rfl (by omega) HO1.out.bs (by omega)).mono ?_)
    rintro e w' ⟨rfl, rfl⟩
    go_wp2_with fail
    (with_reducible refine (refBytes_c (sumM o (tailB ⟨q, t⟩)) _ _ rfl HSL.out).mono ?_)
    rintro e V2 ⟨rfl, hM, hb⟩
    have HM := Lib.hid hM
    have HH2 := Lib.hid (HH.out.below hb HH.out.lt)
    have HO2 := Lib.hid (HO1.out.below hb HO1.out.lt)
    have HB2 := Lib.hid (HB1.out.trans (hb.mono HB1.out.size))
    clear hM hb HH HO1 HB1
    go_wp2_with (at_builtin; first | (refine wpList_app rfl (.tmp 28) (.tmp 33) rfl rfl rfl HH2.out HM.out.bs (not_none _) HB2.out.size ?hm ?_; (case hm => omega); intro g1 c1 V3 hO3 hg3; have HB3 := Lib.hid (HH2.out.bel_grown hg3 HB2.out (Nat.le_refl _) HB2.out.size); have HO3 := Lib.hid (HO2.out.grown hg3 HG.out); have HH3 := Lib.hid hO3; clear hO3 hg3 HO2 HB2 HH2 HM) | (refine wpList_app rfl (.tmp 35) (.tmp 36) rfl rfl rfl HH3.out HO3.out.bs (not_none _) HB3.out.size ?hm ?_; (case hm => omega); intro g2 c2 V4 hO4 hg4; have HB4 := Lib.hid (HH3.out.bel_grown hg4 HB3.out (Nat.le_refl _) HB3.out.size); have HH4 := Lib.hid hO4; clear hO4 hg4))
    go_ret
    refine ⟨g2, _, c2, rfl, ?_, HB.out.trans (HB4.out.mono HB.out.size)⟩
    have := HH4.out.base (show k ≤ W.heap.size by omega)
    rw [HN.out] at this ⊢
    rw [hk]
    unfold frameB
    exact this
end Go.Proofs.Ytkjckdndkljeeaa

/- Package roll's other in pyxref4: Open. -/
import Derived.Test.YtkjckdndkljeeaaRollK
import Derived.Test.YtkjckdndkljeeaaRollI
namespace Go.Proofs.Ytkjckdndkljeeaa
open Go.RowKit
theorem Try.refRecs : Try.prog.underlying 49 = some (.slice 74) := Try.underlying49
theorem Try.refRecI : (Try.prog.info? 74).map (fun i => (i.zero, i.size, i.bytes)) = some (some (.agg #[.int .i64 0, .string ⟨#[]⟩]), 2, 24) := by kernel_rfl
theorem refWrite_w {w : World} {g d n : Nat} {s s' : Sst} {β : Bool} (a : Int) (A : Option Addr) (m c : Nat) (b : List UInt8) (K : Int) (hW : wrS s n a b = (s', β)) (h : RsS w g d n s) (hb : Bs w w.heap.size A m c b) (ho : s.Ok n K) (hK : K < 4611686018427387904) (ha : a ≤ 9223372036854775807) :
    Calls Try.prog 21 #[.pointer (some ⟨g, 0, none⟩), .int .i64 a, .slice A m c] w fun e w' => e = .returned (.bool β) ∧ RsS w' g d n s' ∧ But [g, d] w w' := by
  have := refWrite_all a A m c b K h hb ho hK ha
  rw [hW] at this
  exact this
theorem badA_iff {n : Nat} {a z : Int} (h1 : ¬ z < 32) : badA n a z = true ↔ 8192 < z ∨ a < 0 ∨ (n : Int) < a ∨ (n : Int) - a < z := by
  unfold badA
  simp
  omega
def FindRelR (w : World) (p g : Nat) (a z : Int) (l : List UInt8) (n : Nat) (x : Value) (wr : World) : Prop :=
  ∃ (A' : Option Addr) (c' : Nat) (L : List Rec) (u f : Nat), x = .int .i64 (lastB L) ∧ RlR wr w.heap.size p g a z A' c' L u ∧ n ≤ f + u ∧ u ≤ n ∧ L.length ≤ u ∧ findB l = (L ++ (findF f l u (lastB L)).1, (findF f l u (lastB L)).2) ∧ But [p] w wr
def WipeRelR (w : World) (g d n : Nat) (a : Int) (z u : Nat) (s : Sst) (K : Int) (i : Value) (wr : World) : Prop :=
  ∃ (k f : Nat) (s' : Sst) (J : Int), i = .int .i64 k ∧ k ≤ z + 32 ∧ z ≤ 32 * f + k ∧ RsS wr g d n s' ∧ s'.Ok n J ∧ J + f ≤ K + 257 ∧ wipeF 257 s n a u z = wipeF f s' n a k z ∧ But [g, d] w wr
set_option maxRecDepth 100000 in
set_option maxHeartbeats 6400000 in
theorem refOpen_c {g d n : Nat} {s : Sst} (a z : Int) (K : Int) (w : World) (h : RsS w g d n s) (ho : s.Ok n K) (hK : K ≤ 1000000000000000000) (ha : a ≤ 9223372036854775807) (R : Sst × Option (List Rec × Nat) × Int) (hR : opS s n a z = R) :
    Calls Try.prog 22 #[.pointer (some ⟨g, 0, none⟩), .int .i64 a, .int .i64 z] w (OpE 51 74 RsS w g d n a z R) := by
  have hn := h.2.2.2.2
  obtain ⟨lg, c0, c1, c2, c3, c4⟩ := h.cells
  have H := Lib.hid h
  have HO := Lib.hid ho
  have HR := Lib.hid hR
  clear h ho hR
  by_cases h1 : z < 32
  · as_aux_lemma =>
    have HE := Lib.hid (show R = (s, none, 1) by rw [← HR.out, opS_bad (by unfold badA; simp [h1])])
    go_enter Try.func22, Try.ntmps22
    go_wp2
    go_ret2
    rw [HE.out]
    exact ⟨H.out, But.refl _ _, rfl⟩
  by_cases hbad : badA n a z = true
  · as_aux_lemma =>
    have HE := Lib.hid (show R = (s, none, 1) by rw [← HR.out, opS_bad hbad])
    by_cases h2 : 8192 < z
    · go_enter Try.func22, Try.ntmps22
      go_wp2
      go_ret2
      rw [HE.out]
      exact ⟨H.out, But.refl _ _, rfl⟩
    by_cases h3 : a < 0
    · go_enter Try.func22, Try.ntmps22
      go_wp2
      go_ret2
      rw [HE.out]
      exact ⟨H.out, But.refl _ _, rfl⟩
    by_cases h4 : (n : Int) < a
    · go_enter Try.func22, Try.ntmps22
      go_wp2
      go_ret2
      rw [HE.out]
      exact ⟨H.out, But.refl _ _, rfl⟩
    have h5 : (n : Int) - a < z := by rcases (badA_iff h1).1 hbad with h | h | h | h <;> omega
    clear hbad
    go_enter Try.func22, Try.ntmps22
    go_wp2
    go_ret2
    rw [HE.out]
    exact ⟨H.out, But.refl _ _, rfl⟩
  obtain ⟨h2, h3, h4, h5⟩ : ¬ 8192 < z ∧ ¬ a < 0 ∧ ¬ (n : Int) < a ∧ ¬ (n : Int) - a < z := by
    have := mt (badA_iff (n := n) (a := a) h1).2 hbad
    omega
  have HBad := Lib.hid (show badA n a z = false by simpa using hbad)
  clear hbad
  obtain ⟨aN, rfl⟩ := Int.eq_ofNat_of_zero_le (show 0 ≤ a by omega)
  obtain ⟨zN, rfl⟩ := Int.eq_ofNat_of_zero_le (show 0 ≤ z by omega)
  cases hd : s.dead with
  | true =>
    as_aux_lemma =>
    have HE := Lib.hid (show R = (s, none, 6) by rw [← HR.out, opS_dead HBad.out hd])
    rw [hd] at c3
    clear hd
    go_enter Try.func22, Try.ntmps22
    go_wp2
    go_ret2
    rw [HE.out]
    exact ⟨H.out, But.refl _ _, rfl⟩
  | false =>
    have HD := Lib.hid hd
    obtain ⟨l, hl⟩ : ∃ l, (s.l.drop aN).take zN = l := ⟨_, rfl⟩
    have HL := Lib.hid hl
    have hll : l.length = zN := by rw [← hl, List.length_take, List.length_drop, H.out.2.2.1]; omega
    have HLL := Lib.hid hll
    obtain ⟨L, u, hf⟩ : ∃ L u, findB l = (L, u) := ⟨_, _, rfl⟩
    have HF := Lib.hid hf
    have huz : u ≤ zN := by have := findB_u l; rw [hf] at this; simp only at this; omega
    have hLu : L.length ≤ u := by have := findB_L l; rw [hf] at this; exact this
    obtain ⟨s', β, hw⟩ : ∃ s' β, wipeB s n (aN : Int) u zN (l.drop u) = (s', β) := ⟨_, _, rfl⟩
    have HW := Lib.hid hw
    have HE := Lib.hid (show R = if β = true then (s', some (L, u), 0) else (s', none, 6) by rw [← HR.out, opS_on HBad.out hd hl hf hw])
    rw [hd] at c3
    have HBs := Lib.hid (show Bs w w.heap.size (some ⟨d, aN, none⟩) zN (n - aN) l by
      have := (H.out.2.1.bs H.out.2.2.1).mid (k := aN) (q := zN) (by omega) (by omega)
      rw [hl, Nat.zero_add] at this
      exact this)
    have e1 : (0 : Int) ≤ (aN : Int) := by omega
    have e2 : (aN : Int) ≤ (aN : Int) + (zN : Int) := by omega
    have e3 : (aN : Int) + (zN : Int) ≤ (n : Int) := by omega
    have e4 : ((aN : Int) + (zN : Int)).toNat = aN + zN := by omega
    have e5 : ¬ n = aN := by omega
    have e6 : aN + zN - aN = zN := by omega
    clear hd hl hll hf hw HR
    go_enter Try.func22, Try.ntmps22
    go_upto_block 0 with fail
    obtain ⟨p, hp⟩ : ∃ p, w.heap.size = p := ⟨_, rfl⟩
    obtain ⟨V, hV⟩ : ∃ V, w.alloc (.cells #[.pointer (some ⟨g, 0, none⟩), .int .i64 (aN : Int), .int .i64 (zN : Int), .slice none 0 0, .int .i64 0] 51) = V := ⟨_, rfl⟩
    have hA : Below w.heap.size w V := by rw [← hV]; exact (Below.refl _ _).alloc (Nat.le_refl _) _
    have HP := Lib.hid (show RlR V V.heap.size p g (aN : Int) (zN : Int) none 0 [] 0 from ⟨by rw [← hV, ← hp]; exact Blk.new _ _ _, World.ownsRow_nil _ _ _ _⟩)
    have HSv := Lib.hid (H.out.below hA)
    have HBsv := Lib.hid ((HBs.out.below hA).more hA.size)
    have HBv := Lib.hid hA
    have hpw : w.heap.size ≤ p := by omega
    have HPX := Lib.hid (show (g ∉ [p] ∧ d ∉ [p]) ∧ d ≠ p by have := H.out.lt; simp; omega)
    rw [hV, hp]
    clear hV hp hA HBs lg c0 c1 c2 c3 c4 e1 e2 e3 e4 e5 e6
    go_cut [10] (fun _ wx => ∃ A2 c2, RlR wx V.heap.size p g (aN : Int) (zN : Int) A2 c2 L u ∧ But [p] V wx)
    case first =>
      as_aux_lemma =>
      go_wp2_with fail
      go_loopw [10] (fun x wr => FindRelR V p g (aN : Int) (zN : Int) l zN x wr) (fun _ wr => zN - uAt wr p)
      case atStart => exact ⟨none, 0, [], 0, l.length, rfl, HP.out, by rw [HLL.out]; omega, by omega, by simp, by simp [findB, lastB], But.refl _ _⟩
      case round =>
        obtain ⟨A', c', L1, u1, f, rfl, hr, hf, hu, hLu1, hFb, hb⟩ := hrel
        obtain ⟨Rw, hRw⟩ : ∃ Rw, wholeB (l.drop u1) u1 (lastB L1) = Rw := ⟨_, rfl⟩
        obtain ⟨lst, hlst⟩ : ∃ x, lastB L1 = x := ⟨_, rfl⟩
        obtain ⟨q, t, m, β1, hV1, hβ0, hβ1⟩ := wh_parts Rw
        have HR1 := Lib.hid hr
        have HRW := Lib.hid hRw
        have HFb := Lib.hid hFb
        have HB1 := Lib.hid hb
        have HV1 := Lib.hid hV1
        have HLS := Lib.hid hlst
        have HX := Lib.hid (fun k hk => (hr.lt.2 k hk).2)
        have HL1 := Lib.hid (show Bs wr wr.heap.size (some ⟨d, aN, none⟩) zN (n - aN) l by
          refine ⟨HBsv.out.1, HBsv.out.2.1, HBsv.out.2.2.1, fun h0 => ?_⟩
          obtain ⟨g0, o0, e, hg0, hc⟩ := HBsv.out.2.2.2 h0
          refine ⟨g0, o0, e, Nat.lt_of_lt_of_le hg0 hb.size, fun j hj => cel_but (hc j hj) hb ?_⟩
          cases e
          exact HPX.out.1.2)
        clear hr hRw hFb hb hV1 hlst
        rw [HLS.out] at HRW
        rw [HLS.out]
        obtain ⟨lp, x0, x1, x2, x3, x4⟩ := HR1.out.cells
        go_wp2_with fail
        (with_reducible refine (next_c _ zN (n - aN) l u1 lst Rw _ HL1.out HRW.out (by omega) (by omega)).mono ?_)
        rintro e w1 ⟨rfl, hb⟩
        rw [HV1.out]
        have HR2 := Lib.hid (HR1.out.below hb)
        have HB2 := Lib.hid (HB1.out.trans (But.of_below hb [p]))
        clear hb lp x0 x1 x2 x3 x4
        cases β1 with
        | false =>
          as_aux_lemma =>
          obtain rfl : Rw = none := hβ0 rfl
          obtain ⟨e1, e2⟩ : L1 = L ∧ u1 = u := by
            have := HFb.out
            rw [HF.out, HLS.out, findF_done HRW.out] at this
            simp at this
            exact ⟨this.1.symm, this.2.symm⟩
          subst e1 e2
          go_wp2_with fail
          go_meet
          case rel =>
            have hb2 := (Below.refl w1.heap.size w1).alloc (Nat.le_refl _) (.cells #[.int .i64 q, .string ⟨t.toArray⟩] 74)
            exact ⟨A', c', HR2.out.below hb2, HB2.out.trans (But.of_below hb2 [p])⟩
        | true =>
          as_aux_lemma =>
          obtain rfl : Rw = some (⟨q, t⟩, m) := hβ1 rfl
          obtain ⟨f', hf', hff, hum, hm20, hFm⟩ := findF_more HLL.out hf HRW.out
          have HFm := Lib.hid hFm
          have hL1b : L1.length ≤ 1000000 := by omega
          clear hFm hff
          go_upto_region 10 with fail
          obtain ⟨k, hk⟩ : ∃ k, w1.heap.size = k := ⟨_, rfl⟩
          obtain ⟨W, hW⟩ : ∃ W, w1.alloc (.cells #[.int .i64 q, .string ⟨t.toArray⟩] 74) = W := ⟨_, rfl⟩
          have hb : Below w1.heap.size w1 W := by rw [← hW]; exact (Below.refl _ _).alloc (Nat.le_refl _) _
          have HK := Lib.hid (show Blk W k 74 #[.int .i64 q, .string ⟨t.toArray⟩] by rw [← hW, ← hk]; exact Blk.new _ _ _)
          have HRw := Lib.hid (HR2.out.below hb)
          have HBw := Lib.hid (HB2.out.trans (But.of_below hb [p]))
          have HXk := Lib.hid (show k ∉ p :: rowOf A' by
            intro hm
            obtain ⟨l1, l2⟩ := HR2.out.lt
            rcases List.mem_cons.1 hm with e | hm
            · omega
            · have := (l2 k hm).1
              omega)
          rw [hW, hk]
          clear hW hk hb HR2 HB2
          obtain ⟨k3, hk3⟩ : ∃ k3, W.heap.size = k3 := ⟨_, rfl⟩
          obtain ⟨W3, hW3⟩ : ∃ W3, W.drew.alloc (.cells #[.int .i64 q, .string ⟨t.toArray⟩] 74) = W3 := ⟨_, rfl⟩
          have hb3 : Below W.heap.size W W3 := by rw [← hW3]; exact (Below.refl _ _).drew.alloc (Nat.le_refl _) _
          have HK3 := Lib.hid (show Blk W3 k3 74 #[.int .i64 q, .string ⟨t.toArray⟩] by rw [← hW3, ← hk3]; exact Blk.new W.drew _ _)
          have HR3 := Lib.hid (HRw.out.below hb3)
          have HB3 := Lib.hid hb3
          have hBW3 : V.heap.size ≤ W3.heap.size := by have := HBw.out.size; have := hb3.size; omega
          have HSd := Lib.hid (show W.drew.cell? ⟨k, 0, none⟩ = some (.int .i64 q) ∧ W.drew.cell? ⟨k, 1, none⟩ = some (.string ⟨t.toArray⟩) from (blk2 HK.out).2)
          have HS3 := Lib.hid (show W3.cell? ⟨k, 0, none⟩ = some (.int .i64 q) ∧ W3.cell? ⟨k, 1, none⟩ = some (.string ⟨t.toArray⟩) from ⟨cel_below (blk2 HK.out).2.1 HB3.out, cel_below (blk2 HK.out).2.2 HB3.out⟩)
          clear hb3
          go_cut [91] (fun _ wx => ∃ k' c', RlR wx V.heap.size p g (aN : Int) (zN : Int) (some ⟨k', 0, none⟩) c' (L1 ++ [⟨q, t⟩]) u1 ∧ wx.cell? ⟨k, 0, none⟩ = some (.int .i64 q) ∧ But (p :: rowOf A') W wx)
          case first =>
            as_aux_lemma =>
            refine wp_region_ord (S := fun V => V.cell? ⟨k, 0, none⟩ = some (.int .i64 q) ∧ V.cell? ⟨k, 1, none⟩ = some (.string ⟨t.toArray⟩)) (by kernel_rfl) ?_
            refine ord_take (v := ?_) (i := 0) (fuel := 10) (by simp; rfl) (by kernel_rfl) (by kernel_rfl) (by kernel_rfl) (Or.inl ⟨by rfl, fun w' hSw => ?_⟩) HSd.out ?_
            rotate_left
            · go_simp
              all_goals with_reducible rfl
            simp only [Act.put, List.setIfInBounds_toArray, List.set_cons_zero, List.set_cons_succ]
            refine ord_take (v := ?_) (i := 1) (fuel := 9) (by simp; rfl) (by kernel_rfl) (by kernel_rfl) (by kernel_rfl) (Or.inl ⟨by rfl, fun w' hSw => ?_⟩) HSd.out ?_
            rotate_left
            · go_simp
              all_goals with_reducible rfl
            simp only [Act.put, List.setIfInBounds_toArray, List.set_cons_zero, List.set_cons_succ]
            refine ord_take (v := ?_) (i := 2) (fuel := 8) (by simp; rfl) (by kernel_rfl) (by kernel_rfl) (by kernel_rfl) (Or.inl ⟨by rfl, fun w' hSw => ?_⟩) HSd.out ?_
            rotate_left
            · go_simp
              all_goals with_reducible rfl
            simp only [Act.put, List.setIfInBounds_toArray, List.set_cons_zero, List.set_cons_succ]
            refine ord_take (v := ?_) (i := 3) (fuel := 7) (by simp; rfl) (by kernel_rfl) (by kernel_rfl) (by kernel_rfl) (Or.inl ⟨by rfl, fun w' hSw => ?_⟩) HSd.out ?_
            rotate_left
            · go_simp
              all_goals with_reducible rfl
            simp only [Act.put, List.setIfInBounds_toArray, List.set_cons_zero, List.set_cons_succ]
            refine ord_take (v := ?_) (i := 5) (fuel := 6) (by simp; rfl) (by kernel_rfl) (by kernel_rfl) (by kernel_rfl) (Or.inl ⟨by rfl, fun w' hSw => ?_⟩) HSd.out ?_
            rotate_left
            · obtain ⟨y0, y1⟩ := hSw
              go_simp
              all_goals with_reducible rfl
            simp only [Act.put, List.setIfInBounds_toArray, List.set_cons_zero, List.set_cons_succ]
            refine ord_two (i := 4) (j := 6) (fuel := 5) (by kernel_rfl) ?_ ?_
            · as_aux_lemma =>
              have cc : W.drew.cell? ⟨p, 3, none⟩ = some (.slice A' L1.length c') := HRw.out.cells.2.2.2.2.1
              refine ordI_only (v := .slice A' L1.length c') (w' := W.drew) (by simp; rfl) (by rfl) ?_ HSd.out ?_
              · go_simp
                all_goals with_reducible rfl
              simp only [Act.put, List.setIfInBounds_toArray, List.set_cons_zero, List.set_cons_succ]
              refine ord_only (v := .slice (some ⟨k3, 0, none⟩) 1 1) (w' := W3) (i := 6) (fuel := 4) (by simp; rfl) (by kernel_rfl) (by rfl) ?_ HS3.out ?_
              · rw [← hW3, ← hk3]
                go_simp
                all_goals with_reducible rfl
              simp only [Act.put, List.setIfInBounds_toArray, List.set_cons_zero, List.set_cons_succ]
              clear cc
              obtain ⟨k', c2, w4, hrun, hR4, hb4, c4, f4, hb4'⟩ := HR3.out.app Try.refRecs Try.refRecI (by decide) ⟨q, t⟩ HK3.out hL1b hBW3 49
              have HR4 := Lib.hid hR4
              have HB4 := Lib.hid hb4
              have HS4 := Lib.hid (show w4.cell? ⟨k, 0, none⟩ = some (.int .i64 q) ∧ w4.cell? ⟨k, 1, none⟩ = some (.string ⟨t.toArray⟩) from ⟨cel_but HS3.out.1 hb4' HXk.out, cel_but HS3.out.2 hb4' HXk.out⟩)
              have HS5 := Lib.hid (show (w4.setCell ⟨p, 3, none⟩ (.slice (some ⟨k', 0, none⟩) (L1.length + 1) c2)).cell? ⟨k, 0, none⟩ = some (.int .i64 q) ∧ (w4.setCell ⟨p, 3, none⟩ (.slice (some ⟨k', 0, none⟩) (L1.length + 1) c2)).cell? ⟨k, 1, none⟩ = some (.string ⟨t.toArray⟩) from ⟨cel_but HS3.out.1 hb4 HXk.out, cel_but HS3.out.2 hb4 HXk.out⟩)
              clear hR4 hb4 hb4'
              refine ord_only (v := .slice (some ⟨k', 0, none⟩) (L1.length + 1) c2) (w' := w4) (i := 7) (fuel := 3) (by simp; rfl) (by kernel_rfl) (by rfl) ?_ HS4.out ?_
              · refine (append_run (s := .tmp 86) (x := .tmp 88) (v := .slice A' L1.length c') (xv := .slice (some ⟨k3, 0, none⟩) 1 1) rfl (by rfl) (by rfl) hrun).trans ?_
                with_reducible rfl
              simp only [Act.put, List.setIfInBounds_toArray, List.set_cons_zero, List.set_cons_succ]
              refine ord_take (v := ?_) (i := 8) (fuel := 2) (by simp; rfl) (by kernel_rfl) (by kernel_rfl) (by kernel_rfl) (Or.inl ⟨by rfl, fun w' hSw => ?_⟩) HS4.out ?_
              rotate_left
              · go_simp
                all_goals with_reducible rfl
              simp only [Act.put, List.setIfInBounds_toArray, List.set_cons_zero, List.set_cons_succ]
              refine ord_take (v := ?_) (i := 9) (fuel := 1) (by simp; rfl) (by kernel_rfl) (by kernel_rfl) (by kernel_rfl) (Or.inl ⟨by rfl, fun w' hSw => ?_⟩) HS4.out ?_
              rotate_left
              · go_simp
                all_goals with_reducible rfl
              simp only [Act.put, List.setIfInBounds_toArray, List.set_cons_zero, List.set_cons_succ]
              refine ord_skip (w' := w4.setCell ⟨p, 3, none⟩ (.slice (some ⟨k', 0, none⟩) (L1.length + 1) c2)) (i := 10) (fuel := 0) (by simp; rfl) (by kernel_rfl) (by rfl) (by rfl) ?_ HS5.out ?_
              · go_simp
                all_goals with_reducible rfl
              refine ord_done (by kernel_rfl) ?_ _
              clear c4 f4
              go_wp2_with fail
              go_meet
              case rel => exact ⟨k', c2, HR4.out, HS5.out.1, (But.of_below HB3.out _).trans HB4.out⟩
            · as_aux_lemma =>
              refine ordI_only (v := .slice (some ⟨k3, 0, none⟩) 1 1) (w' := W3) (by simp; rfl) (by rfl) ?_ HS3.out ?_
              · rw [← hW3, ← hk3]
                go_simp
                all_goals with_reducible rfl
              simp only [Act.put, List.setIfInBounds_toArray, List.set_cons_zero, List.set_cons_succ]
              have cc : W3.cell? ⟨p, 3, none⟩ = some (.slice A' L1.length c') := HR3.out.cells.2.2.2.2.1
              refine ord_only (v := .slice A' L1.length c') (w' := W3) (i := 4) (fuel := 4) (by simp; rfl) (by kernel_rfl) (by rfl) ?_ HS3.out ?_
              · go_simp
                all_goals with_reducible rfl
              simp only [Act.put, List.setIfInBounds_toArray, List.set_cons_zero, List.set_cons_succ]
              clear cc
              obtain ⟨k', c2, w4, hrun, hR4, hb4, c4, f4, hb4'⟩ := HR3.out.app Try.refRecs Try.refRecI (by decide) ⟨q, t⟩ HK3.out hL1b hBW3 49
              have HR4 := Lib.hid hR4
              have HB4 := Lib.hid hb4
              have HS4 := Lib.hid (show w4.cell? ⟨k, 0, none⟩ = some (.int .i64 q) ∧ w4.cell? ⟨k, 1, none⟩ = some (.string ⟨t.toArray⟩) from ⟨cel_but HS3.out.1 hb4' HXk.out, cel_but HS3.out.2 hb4' HXk.out⟩)
              have HS5 := Lib.hid (show (w4.setCell ⟨p, 3, none⟩ (.slice (some ⟨k', 0, none⟩) (L1.length + 1) c2)).cell? ⟨k, 0, none⟩ = some (.int .i64 q) ∧ (w4.setCell ⟨p, 3, none⟩ (.slice (some ⟨k', 0, none⟩) (L1.length + 1) c2)).cell? ⟨k, 1, none⟩ = some (.string ⟨t.toArray⟩) from ⟨cel_but HS3.out.1 hb4 HXk.out, cel_but HS3.out.2 hb4 HXk.out⟩)
              clear hR4 hb4 hb4'
              refine ord_only (v := .slice (some ⟨k', 0, none⟩) (L1.length + 1) c2) (w' := w4) (i := 7) (fuel := 3) (by simp; rfl) (by kernel_rfl) (by rfl) ?_ HS4.out ?_
              · refine (append_run (s := .tmp 86) (x := .tmp 88) (v := .slice A' L1.length c') (xv := .slice (some ⟨k3, 0, none⟩) 1 1) rfl (by rfl) (by rfl) hrun).trans ?_
                with_reducible rfl
              simp only [Act.put, List.setIfInBounds_toArray, List.set_cons_zero, List.set_cons_succ]
              refine ord_take (v := ?_) (i := 8) (fuel := 2) (by simp; rfl) (by kernel_rfl) (by kernel_rfl) (by kernel_rfl) (Or.inl ⟨by rfl, fun w' hSw => ?_⟩) HS4.out ?_
              rotate_left
              · go_simp
                all_goals with_reducible rfl
              simp only [Act.put, List.setIfInBounds_toArray, List.set_cons_zero, List.set_cons_succ]
              refine ord_take (v := ?_) (i := 9) (fuel := 1) (by simp; rfl) (by kernel_rfl) (by kernel_rfl) (by kernel_rfl) (Or.inl ⟨by rfl, fun w' hSw => ?_⟩) HS4.out ?_
              rotate_left
              · go_simp
                all_goals with_reducible rfl
              simp only [Act.put, List.setIfInBounds_toArray, List.set_cons_zero, List.set_cons_succ]
              refine ord_skip (w' := w4.setCell ⟨p, 3, none⟩ (.slice (some ⟨k', 0, none⟩) (L1.length + 1) c2)) (i := 10) (fuel := 0) (by simp; rfl) (by kernel_rfl) (by rfl) (by rfl) ?_ HS5.out ?_
              · go_simp
                all_goals with_reducible rfl
              refine ord_done (by kernel_rfl) ?_ _
              clear c4 f4
              go_wp2_with fail
              go_meet
              case rel => exact ⟨k', c2, HR4.out, HS5.out.1, (But.of_below HB3.out _).trans HB4.out⟩
          case rest =>
            as_aux_lemma =>
            obtain ⟨k', c2, hr4, hc4, hb4⟩ := hcut
            obtain ⟨W4, rfl⟩ : ∃ W : World, W = wc := ⟨_, rfl⟩
            have HR4 := Lib.hid hr4
            have hkp : ¬ k = p := fun e => HXk.out (by rw [e]; simp)
            have HB4 := Lib.hid (show But [p] V W4 by
              refine ⟨hb4.os.trans HBw.out.os, hb4.tape.trans HBw.out.tape, hb4.output.trans HBw.out.output, Nat.le_trans HBw.out.size hb4.size, fun i hi hx => ?_⟩
              refine (hb4.block i (Nat.lt_of_lt_of_le hi HBw.out.size) (fun hm => ?_)).trans (HBw.out.block i hi hx)
              rcases List.mem_cons.1 hm with rfl | hm
              · exact hx (by simp)
              · have := HX.out i hm
                omega)
            have HUr := Lib.hid (uAt_rl HR1.out)
            have HR5 := Lib.hid (show RlR (W4.setCell ⟨p, 4, none⟩ (.int .i64 ((u1 : Int) + (m : Int)))) V.heap.size p g (aN : Int) (zN : Int) (some ⟨k', 0, none⟩) c2 (L1 ++ [⟨q, t⟩]) (u1 + m) by
              have := hr4.setU (by decide) (u1 + m)
              rw [Int.natCast_add] at this
              exact this)
            have HU2 := Lib.hid (uAt_rl HR5.out)
            have HB5 := Lib.hid (HB4.out.setCell (p := ⟨p, 4, none⟩) (by simp) (.int .i64 ((u1 : Int) + (m : Int))))
            obtain ⟨lp, x0, x1, x2, x3, x4⟩ := hr4.cells
            have f4 := hr4.1.frozen 4
            clear hb4 hr4
            go_wp2
            go_roundw
            case rel => exact ⟨some ⟨k', 0, none⟩, c2, L1 ++ [⟨q, t⟩], u1 + m, f', by rw [lastB_add], HR5.out, by omega, by omega, by simp; omega, by rw [lastB_add, HFb.out, HLS.out, HFm.out]; simp, HB5.out⟩
            case measure =>
              rw [HUr.out, HU2.out]
              omega
    case rest =>
      as_aux_lemma =>
      obtain ⟨A2, c2, hr, hb⟩ := hcut
      obtain ⟨V2, rfl⟩ : ∃ W : World, W = wc := ⟨_, rfl⟩
      have HR2 := Lib.hid hr
      have HS2 := Lib.hid (HSv.out.but hb HPX.out.1.1 HPX.out.1.2)
      have HL2 := Lib.hid (show Bs V2 V2.heap.size (some ⟨d, aN, none⟩) zN (n - aN) l by
        refine ⟨HBsv.out.1, HBsv.out.2.1, HBsv.out.2.2.1, fun h0 => ?_⟩
        obtain ⟨g0, o0, e, hg0, hc⟩ := HBsv.out.2.2.2 h0
        refine ⟨g0, o0, e, Nat.lt_of_lt_of_le hg0 hb.size, fun j hj => cel_but (hc j hj) hb ?_⟩
        cases e
        exact HPX.out.1.2)
      have HB2 := Lib.hid (HBv.out.trans (hb.below (B := w.heap.size) HBv.out.size (by simp; exact hpw)))
      have HBV := Lib.hid (show w.heap.size ≤ V.heap.size from HBv.out.size)
      have HX := Lib.hid (show g ∉ p :: rowOf A2 ∧ d ∉ p :: rowOf A2 from ⟨hr.far HS2.out.1 (by decide) (by decide), hr.far HS2.out.2.1 (by decide) (by decide)⟩)
      clear hr hb HP HSv HBsv HBv
      obtain ⟨γ, hγ⟩ : ∃ γ, blankB (l.drop u) = γ := ⟨_, rfl⟩
      have HG := Lib.hid hγ
      clear hγ
      obtain ⟨lp, x0, x1, x2, x3, x4⟩ := HR2.out.cells
      go_upto_block 2 with fail
      clear lp x0 x1 x2 x3 x4
      go_cut [14] (fun v wx => v = .bool γ ∧ wx = V2)
      case first =>
        as_aux_lemma =>
        go_wp2_with fail
        go_loop [14, 15] (fun b i => ∃ j : Nat, u ≤ j ∧ j ≤ zN ∧ i = .int .i64 j ∧ b = .bool (blankB ((l.drop u).take (j - u)))) (fun _ i => zN - (intOf i).toNat)
        case atStart => exact ⟨u, by omega, huz, rfl, by rw [Nat.sub_self]; rfl⟩
        case round =>
          obtain ⟨j, hj1, hj2, rfl, rfl⟩ := hrel
          obtain ⟨δ, hδ⟩ : ∃ δ, blankB ((l.drop u).take (j - u)) = δ := ⟨_, rfl⟩
          have HD2 := Lib.hid hδ
          rw [hδ]
          clear hδ
          by_cases hjz : j < zN
          · have hjz' : (j : Int) < (zN : Int) := by omega
            have hj0 : (0 : Int) ≤ (j : Int) := by omega
            obtain ⟨g0, o0, hl0, e0, _, cj⟩ := HL2.out.at_ (k := j) hjz
            cases e0
            have hlu : j - u < (l.drop u).length := by rw [List.length_drop, HLL.out]; omega
            have hget : (l.drop u)[j - u]'hlu = l[j]'hl0 := by rw [List.getElem_drop]; congr 1; omega
            obtain ⟨xb, hxb⟩ : ∃ xb : Nat, (l[j]'hl0).toNat = xb := ⟨_, rfl⟩
            have hnext : j + 1 - u = j - u + 1 := by omega
            cases δ with
            | true =>
              have HE2 := Lib.hid (show blankB ((l.drop u).take (j + 1 - u)) = decide (xb = 0) by rw [hnext, blank_upto hlu HD2.out, hget, hxb])
              rw [hxb] at cj
              clear hxb hget hnext
              by_cases hx0 : xb = 0
              · subst hx0
                go_wp2
                go_round
                case rel => exact ⟨j + 1, by omega, by omega, by go_num, by rw [HE2.out]; rfl⟩
                case measure => simp [intOf]; omega
              · have hx1 : ((xb : Int) == 0) = false := by simp; omega
                go_wp2
                go_round
                case rel => exact ⟨j + 1, by omega, by omega, by go_num, by rw [HE2.out]; simp [hx0]⟩
                case measure => simp [intOf]; omega
            | false =>
              have HE2 := Lib.hid (show blankB ((l.drop u).take (j + 1 - u)) = false by
                have := blank_not HD2.out
                rw [hnext]
                unfold blankB at this ⊢
                have h8 := HD2.out
                unfold blankB at h8
                rw [List.take_succ_eq_append_getElem hlu, List.all_append, h8]
                rfl)
              clear hxb hget hnext
              go_wp2
              go_round
              case rel => exact ⟨j + 1, by omega, by omega, by go_num, by rw [HE2.out]⟩
              case measure => simp [intOf]; omega
          · have hjz' : ¬ (j : Int) < (zN : Int) := by omega
            obtain rfl : δ = γ := by rw [← HD2.out, ← HG.out, List.take_of_length_le (by rw [List.length_drop, HLL.out]; omega)]
            go_wp2_with fail
            go_meet
            case rel => exact ⟨rfl, rfl⟩
      case rest =>
        as_aux_lemma =>
        obtain ⟨rfl, hw⟩ := hcut
        have hw' := hw.symm
        clear hw
        subst hw'
        obtain ⟨lp, x0, x1, x2, x3, x4⟩ := HR2.out.cells
        cases γ with
        | true =>
          obtain ⟨rfl, rfl⟩ : s = s' ∧ true = β := by
            have := HW.out
            unfold wipeB at this
            rw [if_pos HG.out] at this
            cases this
            exact ⟨rfl, rfl⟩
          go_wp2
          go_loopw [16] (fun i wr => i = .int .i64 (u : Int) ∧ wr = V2) (fun _ _ => 0)
          case atStart => exact ⟨rfl, rfl⟩
          case round =>
            obtain ⟨rfl, rfl⟩ := hrel
            by_cases huz2 : u < zN
            · have huz2' : (u : Int) < (zN : Int) := by omega
              go_wp2
              go_ret2
              rw [HE.out]
              exact ⟨HS2.out, But.of_below HB2.out _, p, A2, c2, rfl, hpw, HR2.out.base HBV.out⟩
            · have huz2' : ¬ (u : Int) < (zN : Int) := by omega
              go_wp2
              go_ret2
              rw [HE.out]
              exact ⟨HS2.out, But.of_below HB2.out _, p, A2, c2, rfl, hpw, HR2.out.base HBV.out⟩
        | false =>
          have HR3 := Lib.hid (show wipeF 257 s n (aN : Int) u zN = (s', β) by
            have := HW.out
            unfold wipeB at this
            rwa [if_neg (by rw [HG.out]; decide)] at this)
          go_wp2
          clear lp x0 x1 x2 x3 x4
          go_loopw [16] (fun i wr => WipeRelR V2 g d n (aN : Int) zN u s K i wr) (fun i _ => zN + 32 - (intOf i).toNat)
          case atStart => exact ⟨u, 257, s, K, rfl, by omega, by omega, HS2.out, HO.out, by omega, rfl, But.refl _ _⟩
          case round =>
            obtain ⟨k, f, s1, J, rfl, hk, hzf, hs1, ho1, hJ, hF, hb1⟩ := hrel
            have HS1 := Lib.hid hs1
            have HO1 := Lib.hid ho1
            have HFw := Lib.hid hF
            have HB1 := Lib.hid hb1
            have HR1 := Lib.hid (HR2.out.slab HX.out.1 HX.out.2 hb1)
            clear hs1 ho1 hF hb1
            by_cases hkz : k < zN
            · as_aux_lemma =>
              have hkz' : (k : Int) < (zN : Int) := by omega
              obtain ⟨q, hq⟩ : ∃ q, min 32 (zN - k) = q := ⟨_, rfl⟩
              obtain ⟨s2, δ, hW⟩ : ∃ s2 δ, wrS s1 n ((aN : Int) + (k : Int)) (List.replicate q 0) = (s2, δ) := ⟨_, _, rfl⟩
              obtain ⟨f', rfl⟩ : ∃ f', f = f' + 1 := ⟨f - 1, by omega⟩
              have HF2 := Lib.hid (wipeF_step (f := f') hkz hq hW)
              have HWr := Lib.hid hW
              have hmin : min (32 : Int) ((zN : Int) - (k : Int)) = (q : Int) := by omega
              have hq32 : q ≤ 32 := by omega
              have HA9 := Lib.hid (show (aN : Int) + (k : Int) ≤ 9223372036854775807 by omega)
              have hmk := run_make_row' (P := Try.prog) 30 5 (.int .u8 0) 1 Try.u42 Try.i8 rfl .i64 .i64 q (by omega) (by omega) wr
              obtain ⟨k1, hk1⟩ : ∃ k1, wr.heap.size = k1 := ⟨_, rfl⟩
              obtain ⟨V1, hV1⟩ : ∃ V, wr.alloc (.cells (madeCells #[Value.int .u8 0] q) 5) = V := ⟨_, rfl⟩
              have hA := (Below.refl wr.heap.size wr).alloc (Nat.le_refl _) (.cells (madeCells #[Value.int .u8 0] q) 5)
              have hZ := row_zeros wr q
              rw [hV1, hk1] at hmk hZ
              rw [hV1] at hA
              have HZ := Lib.hid (hZ.bs (n := q) (by simp))
              have HSv := Lib.hid (HS1.out.below hA)
              have HRv := Lib.hid (HR1.out.below hA)
              have HBv := Lib.hid (HB1.out.trans (But.of_below hA [g, d]))
              clear hW hZ hA hV1 hk1 hmin
              by_cases hlt : (zN : Int) - (k : Int) < 32
              · as_aux_lemma =>
                rw [show ((q : Nat) : Int) = (zN : Int) - (k : Int) by omega] at hmk
                clear hq
                go_wp2_with fail
                (with_reducible refine (refWrite_w ((aN : Int) + (k : Int)) _ _ _ _ J HWr.out HSv.out HZ.out HO1.out (by omega) HA9.out).mono ?_)
                rintro e V3 ⟨rfl, hs2, hb2⟩
                have HS3 := Lib.hid hs2
                have HB3 := Lib.hid (HBv.out.trans hb2)
                have HO2 := Lib.hid (wrS_w HWr.out HO1.out)
                clear hs2 hb2 hmk
                cases δ with
                | false =>
                  obtain ⟨rfl, rfl⟩ : s2 = s' ∧ false = β := by
                    have := HR3.out
                    rw [HFw.out, HF2.out] at this
                    simp only [Bool.false_eq_true, if_false] at this
                    cases this
                    exact ⟨rfl, rfl⟩
                  go_wp2
                  go_ret2
                  rw [HE.out]
                  exact ⟨HS3.out, (But.of_below HB2.out _).trans HB3.out, rfl⟩
                | true =>
                  have HF3 := Lib.hid (show wipeF 257 s n (aN : Int) u zN = wipeF f' s2 n (aN : Int) (k + 32) zN by rw [HFw.out, HF2.out]; rfl)
                  go_wp2
                  go_roundw
                  case rel => exact ⟨k + 32, f', s2, J + 1, by go_num, by omega, by omega, HS3.out, HO2.out, by omega, HF3.out, HB3.out⟩
                  case measure => simp [intOf]; omega
              · as_aux_lemma =>
                obtain rfl : q = 32 := by omega
                rw [show ((32 : Nat) : Int) = 32 from rfl] at hmk
                clear hq
                go_wp2_with fail
                (with_reducible refine (refWrite_w ((aN : Int) + (k : Int)) _ _ _ _ J HWr.out HSv.out HZ.out HO1.out (by omega) HA9.out).mono ?_)
                rintro e V3 ⟨rfl, hs2, hb2⟩
                have HS3 := Lib.hid hs2
                have HB3 := Lib.hid (HBv.out.trans hb2)
                have HO2 := Lib.hid (wrS_w HWr.out HO1.out)
                clear hs2 hb2 hmk
                cases δ with
                | false =>
                  obtain ⟨rfl, rfl⟩ : s2 = s' ∧ false = β := by
                    have := HR3.out
                    rw [HFw.out, HF2.out] at this
                    simp only [Bool.false_eq_true, if_false] at this
                    cases this
                    exact ⟨rfl, rfl⟩
                  go_wp2
                  go_ret2
                  rw [HE.out]
                  exact ⟨HS3.out, (But.of_below HB2.out _).trans HB3.out, rfl⟩
                | true =>
                  have HF3 := Lib.hid (show wipeF 257 s n (aN : Int) u zN = wipeF f' s2 n (aN : Int) (k + 32) zN by rw [HFw.out, HF2.out]; rfl)
                  go_wp2
                  go_roundw
                  case rel => exact ⟨k + 32, f', s2, J + 1, by go_num, by omega, by omega, HS3.out, HO2.out, by omega, HF3.out, HB3.out⟩
                  case measure => simp [intOf]; omega
            · have hkz' : ¬ (k : Int) < (zN : Int) := by omega
              obtain ⟨rfl, rfl⟩ : s1 = s' ∧ true = β := by
                have := HR3.out
                rw [HFw.out, wipeF_end hkz] at this
                cases this
                exact ⟨rfl, rfl⟩
              go_wp2
              go_ret2
              rw [HE.out]
              exact ⟨HS1.out, (But.of_below HB2.out _).trans HB1.out, p, A2, c2, rfl, hpw, HR1.out.base HBV.out⟩
end Go.Proofs.Ytkjckdndkljeeaa

/- Package roll's other in pyxref4: Append. -/
import Derived.Test.YtkjckdndkljeeaaRollL
import Derived.Test.YtkjckdndkljeeaaRollJ
namespace Go.Proofs.Ytkjckdndkljeeaa
open Go.RowKit
theorem wpList_appRun {w w' : World} {ops : Array Oper} {rest : List Oper} {o : Oper} {a : Act} {Q : Exit → Act → World → Prop} {t u : TypeId} {v xv v' : Value} (hgd : o.guard = none) (s x : Operand)
    (ho : o.op = .call { callee := .builtin .append, args := #[s, x], argTypes := #[t, u] }) (hs : a.eval s = v) (hx : a.eval x = xv) (hrun : (Builtin.append_ #[t, u] o.type #[v, xv]).run Try.prog w = .ok v' w')
    (h : wpList Try.prog ops Q rest (a.put o.dst v') w') : wpList Try.prog ops Q (o :: rest) a w := by
  refine wpList_plain hgd fun K hK => ?_
  unfold Oper.wp
  rw [append_run ho hs hx hrun]
  exact hK _ _ h
set_option maxRecDepth 100000 in
set_option maxHeartbeats 3200000 in
theorem refAppend_c {B p g d n u z c : Nat} {a : Int} {A : Option Addr} {L : List Rec} {s : Sst} (q : Int) (t : List UInt8) (K : Int) (w : World) (h : RlR w B p g a z A c L u) (hs : RsS w g d n s) (ho : s.Ok n K) (hK : K ≤ 1000000000000000000) (hz : z ≤ 8192) (huz : u ≤ z) (hLu : L.length ≤ u) (ha0 : 0 ≤ a) (ha : a ≤ 1000000)
    (hB : B ≤ w.heap.size) (h0 : 0 ≤ lastB L) (hq : q ≤ 9223372036854775807) (R : Sst × List Rec × Nat × Int) (hR : apS s n a z L u q t = R) :
    Calls Try.prog 25 #[.pointer (some ⟨p, 0, none⟩), .int .i64 q, .string ⟨t.toArray⟩] w (ApE 51 74 RsS w B p g d n a z A R) := by
  have H := Lib.hid h
  have HS := Lib.hid hs
  have HO := Lib.hid ho
  have HR := Lib.hid hR
  obtain ⟨lst, hl⟩ : ∃ x, lastB L = x := ⟨_, rfl⟩
  rw [hl] at h0
  have HL := Lib.hid hl
  have HX := Lib.hid (show g ∉ p :: rowOf A ∧ d ∉ p :: rowOf A from ⟨h.far hs.1 (by decide) (by decide), h.far hs.2.1 (by decide) (by decide)⟩)
  clear h hs ho hR hl
  go_enter Try.func25, Try.ntmps25
  go_wp2_with fail
  (with_reducible refine (refLast_c lst H.out HL.out (by omega)).mono ?_)
  rintro e w1 ⟨rfl, hb⟩
  have H1 := Lib.hid (H.out.below hb)
  have HS1 := Lib.hid (HS.out.below hb)
  have HB1 := Lib.hid hb
  clear hb H HS
  by_cases h1 : q ≤ lst
  · have HE := Lib.hid (show R = (s, L, u, 1) by rw [← HR.out, apS_arg (.inl (by rw [HL.out]; exact h1))])
    go_wp2
    go_ret
    rw [HE.out]
    exact ⟨rfl, A, c, H1.out, HS1.out, But.of_below HB1.out _⟩
  by_cases h2 : 420 < t.length
  · have h2' : (420 : Int) < (t.length : Int) := by omega
    have HE := Lib.hid (show R = (s, L, u, 1) by rw [← HR.out, apS_arg (.inr h2)])
    go_wp2
    go_ret
    rw [HE.out]
    exact ⟨rfl, A, c, H1.out, HS1.out, But.of_below HB1.out _⟩
  have h2' : ¬ (420 : Int) < (t.length : Int) := by omega
  have HNA := Lib.hid (show ¬ (q ≤ lastB L ∨ 420 < t.length) by rw [HL.out]; omega)
  obtain ⟨nb, hnb⟩ : ∃ nb, (frameB u ⟨q, t⟩).length = nb := ⟨_, rfl⟩
  have HNB := Lib.hid hnb
  have hnb2 : nb ≤ 1000 := by have := (frameB_len' u ⟨q, t⟩).2; rw [hnb] at this; simp only at this; omega
  clear hnb
  obtain ⟨lp, x0, x1, x2, x3, x4⟩ := H1.out.cells
  go_wp2_with fail
  (with_reducible refine (frame_c q t u _ (by omega) hq (by omega) (by omega)).mono ?_)
  rintro e w2 ⟨gb, nx, cb, rfl, hO, hb⟩
  obtain rfl : nx = nb := by rw [← hO.len, HNB.out]
  have HBs2 := Lib.hid hO.bs
  have H2 := Lib.hid (H1.out.below hb)
  have HS2 := Lib.hid (HS1.out.below hb)
  have HB2 := Lib.hid (HB1.out.trans (hb.mono HB1.out.size))
  clear hO hb H1 HS1 HB1 lp x0 x1 x2 x3 x4
  obtain ⟨lf, hlf⟩ : ∃ x : Int, (z : Int) - (u : Int) = x := ⟨_, rfl⟩
  have hwl : IntKind.i64.wrap ((z : Int) - (u : Int)) = lf := by rw [← hlf, IntKind.wrap_i64]; omega
  obtain ⟨δ, hδ⟩ : ∃ δ, decide (lf < (nx : Int)) = δ := ⟨_, rfl⟩
  have HDL := Lib.hid hδ
  clear hδ
  go_upto_region 4 with fail
  go_cut [36] (fun v wx => v = .bool δ ∧ Below w2.heap.size w2 wx)
  case first =>
    as_aux_lemma =>
    have HBd := Lib.hid (show Below w2.heap.size w2 w2.drew from (Below.refl _ _).drew)
    clear hlf
    refine wp_region_ord (S := fun W => RlR W B p g a z A c L u) (by kernel_rfl) ?_
    refine ord_take (v := ?_) (i := 0) (fuel := 11) (by simp; rfl) (by kernel_rfl) (by kernel_rfl) (by kernel_rfl) (Or.inl ⟨by rfl, fun w' hSw => ?_⟩) H2.out.drew ?_
    rotate_left
    · go_simp
      all_goals with_reducible rfl
    simp only [Act.put, List.setIfInBounds_toArray, List.set_cons_zero, List.set_cons_succ]
    refine ord_take (v := ?_) (i := 1) (fuel := 10) (by simp; rfl) (by kernel_rfl) (by kernel_rfl) (by kernel_rfl) (Or.inl ⟨by rfl, fun w' hSw => ?_⟩) H2.out.drew ?_
    rotate_left
    · go_simp
      all_goals with_reducible rfl
    simp only [Act.put, List.setIfInBounds_toArray, List.set_cons_zero, List.set_cons_succ]
    refine ord_take (v := ?_) (i := 2) (fuel := 9) (by simp; rfl) (by kernel_rfl) (by kernel_rfl) (by kernel_rfl) (Or.inl ⟨by rfl, fun w' hSw => ?_⟩) H2.out.drew ?_
    rotate_left
    · go_simp
      all_goals with_reducible rfl
    simp only [Act.put, List.setIfInBounds_toArray, List.set_cons_zero, List.set_cons_succ]
    refine ord_take (v := ?_) (i := 3) (fuel := 8) (by simp; rfl) (by kernel_rfl) (by kernel_rfl) (by kernel_rfl) (Or.inl ⟨by rfl, fun w' hSw => ?_⟩) H2.out.drew ?_
    rotate_left
    · go_simp
      all_goals with_reducible rfl
    simp only [Act.put, List.setIfInBounds_toArray, List.set_cons_zero, List.set_cons_succ]
    refine ord_take (v := ?_) (i := 4) (fuel := 7) (by simp; rfl) (by kernel_rfl) (by kernel_rfl) (by kernel_rfl) (Or.inl ⟨by rfl, fun w' hSw => ?_⟩) H2.out.drew ?_
    rotate_left
    · go_simp
      all_goals with_reducible rfl
    simp only [Act.put, List.setIfInBounds_toArray, List.set_cons_zero, List.set_cons_succ]
    refine ord_take (v := ?_) (i := 5) (fuel := 6) (by simp; rfl) (by kernel_rfl) (by kernel_rfl) (by kernel_rfl) (Or.inl ⟨by rfl, fun w' hSw => ?_⟩) H2.out.drew ?_
    rotate_left
    · dsimp only at hSw
      obtain ⟨lp, x0, x1, x2, x3, x4⟩ := hSw.cells
      go_simp
      all_goals with_reducible rfl
    simp only [Act.put, List.setIfInBounds_toArray, List.set_cons_zero, List.set_cons_succ]
    refine ord_take (v := ?_) (i := 6) (fuel := 5) (by simp; rfl) (by kernel_rfl) (by kernel_rfl) (by kernel_rfl) (Or.inl ⟨by rfl, fun w' hSw => ?_⟩) H2.out.drew ?_
    rotate_left
    · go_simp
      all_goals with_reducible rfl
    simp only [Act.put, List.setIfInBounds_toArray, List.set_cons_zero, List.set_cons_succ]
    refine ord_take (v := ?_) (i := 7) (fuel := 4) (by simp; rfl) (by kernel_rfl) (by kernel_rfl) (by kernel_rfl) (Or.inl ⟨by rfl, fun w' hSw => ?_⟩) H2.out.drew ?_
    rotate_left
    · go_simp
      all_goals with_reducible rfl
    simp only [Act.put, List.setIfInBounds_toArray, List.set_cons_zero, List.set_cons_succ]
    refine ord_take (v := ?_) (i := 8) (fuel := 3) (by simp; rfl) (by kernel_rfl) (by kernel_rfl) (by kernel_rfl) (Or.inl ⟨by rfl, fun w' hSw => ?_⟩) H2.out.drew ?_
    rotate_left
    · go_simp
      all_goals with_reducible rfl
    simp only [Act.put, List.setIfInBounds_toArray, List.set_cons_zero, List.set_cons_succ]
    refine ord_take (v := ?_) (i := 9) (fuel := 2) (by simp; rfl) (by kernel_rfl) (by kernel_rfl) (by kernel_rfl) (Or.inl ⟨by rfl, fun w' hSw => ?_⟩) H2.out.drew ?_
    rotate_left
    · dsimp only at hSw
      obtain ⟨lp, x0, x1, x2, x3, x4⟩ := hSw.cells
      go_simp
      all_goals with_reducible rfl
    simp only [Act.put, List.setIfInBounds_toArray, List.set_cons_zero, List.set_cons_succ]
    refine ord_take (v := ?_) (i := 10) (fuel := 1) (by simp; rfl) (by kernel_rfl) (by kernel_rfl) (by kernel_rfl) (Or.inl ⟨by rfl, fun w' hSw => ?_⟩) H2.out.drew ?_
    rotate_left
    · go_simp
      all_goals with_reducible rfl
    simp only [Act.put, List.setIfInBounds_toArray, List.set_cons_zero, List.set_cons_succ]
    refine ord_take (v := ?_) (i := 11) (fuel := 0) (by simp; rfl) (by kernel_rfl) (by kernel_rfl) (by kernel_rfl) (Or.inl ⟨by rfl, fun w' hSw => ?_⟩) H2.out.drew ?_
    rotate_left
    · go_simp
      all_goals with_reducible rfl
    simp only [Act.put, List.setIfInBounds_toArray, List.set_cons_zero, List.set_cons_succ]
    refine ord_done (by kernel_rfl) ?_ _
    go_wp2_with fail
    go_meet
    case rel => exact ⟨by rw [← HDL.out], HBd.out⟩
  case rest =>
    as_aux_lemma =>
    obtain ⟨rfl, hb⟩ := hcut
    obtain ⟨w4, rfl⟩ : ∃ W : World, W = wc := ⟨_, rfl⟩
    have H4 := Lib.hid (H2.out.below hb)
    have HS4 := Lib.hid (HS2.out.below hb)
    have HBs4 := Lib.hid ((HBs2.out.below hb).more hb.size)
    have HB4 := Lib.hid (HB2.out.trans (hb.mono HB2.out.size))
    clear hb H2 HS2 HBs2 HB2 hwl
    by_cases h3 : z < u + nx
    · obtain rfl : δ = true := by rw [← HDL.out]; simp; omega
      have HE := Lib.hid (show R = (s, L, u, 5) by rw [← HR.out, apS_full HNA.out (by rw [HNB.out]; exact h3)])
      clear hlf
      go_wp2
      go_ret
      rw [HE.out]
      exact ⟨rfl, A, c, H4.out, HS4.out, But.of_below HB4.out _⟩
    obtain rfl : δ = false := by rw [← HDL.out]; simp; omega
    clear hlf
    obtain ⟨s', β, hw⟩ : ∃ s' β, wrS s n (a + (u : Int)) (frameB u ⟨q, t⟩) = (s', β) := ⟨_, _, rfl⟩
    have HW := Lib.hid hw
    have HE := Lib.hid (show R = if β = true then (s', L ++ [⟨q, t⟩], u + nx, 0) else (s', L, u, 6) by rw [← HR.out, ← HNB.out, apS_on HNA.out (by rw [HNB.out]; exact h3) hw])
    clear hw
    have hwr : IntKind.i64.wrap (a + (u : Int)) = a + (u : Int) := by rw [IntKind.wrap_i64]; omega
    have HA9 := Lib.hid (show a + (u : Int) ≤ 9223372036854775807 by omega)
    go_upto_region 6 with fail
    go_cut [52] (fun v wx => v = .bool (!β) ∧ RsS wx g d n s' ∧ But [g, d] w4 wx)
    case first =>
      as_aux_lemma =>
      refine wp_region_ord (S := fun W => RlR W B p g a z A c L u) (by kernel_rfl) ?_
      refine ord_take (v := ?_) (i := 0) (fuel := 15) (by simp; rfl) (by kernel_rfl) (by kernel_rfl) (by kernel_rfl) (Or.inl ⟨by rfl, fun w' hSw => ?_⟩) H4.out.drew ?_
      rotate_left
      · go_simp
        all_goals with_reducible rfl
      simp only [Act.put, List.setIfInBounds_toArray, List.set_cons_zero, List.set_cons_succ]
      refine ord_take (v := ?_) (i := 1) (fuel := 14) (by simp; rfl) (by kernel_rfl) (by kernel_rfl) (by kernel_rfl) (Or.inl ⟨by rfl, fun w' hSw => ?_⟩) H4.out.drew ?_
      rotate_left
      · go_simp
        all_goals with_reducible rfl
      simp only [Act.put, List.setIfInBounds_toArray, List.set_cons_zero, List.set_cons_succ]
      refine ord_take (v := ?_) (i := 2) (fuel := 13) (by simp; rfl) (by kernel_rfl) (by kernel_rfl) (by kernel_rfl) (Or.inl ⟨by rfl, fun w' hSw => ?_⟩) H4.out.drew ?_
      rotate_left
      · go_simp
        all_goals with_reducible rfl
      simp only [Act.put, List.setIfInBounds_toArray, List.set_cons_zero, List.set_cons_succ]
      refine ord_take (v := ?_) (i := 3) (fuel := 12) (by simp; rfl) (by kernel_rfl) (by kernel_rfl) (by kernel_rfl) (Or.inl ⟨by rfl, fun w' hSw => ?_⟩) H4.out.drew ?_
      rotate_left
      · dsimp only at hSw
        obtain ⟨lp, x0, x1, x2, x3, x4⟩ := hSw.cells
        go_simp
        all_goals with_reducible rfl
      simp only [Act.put, List.setIfInBounds_toArray, List.set_cons_zero, List.set_cons_succ]
      refine ord_take (v := ?_) (i := 4) (fuel := 11) (by simp; rfl) (by kernel_rfl) (by kernel_rfl) (by kernel_rfl) (Or.inl ⟨by rfl, fun w' hSw => ?_⟩) H4.out.drew ?_
      rotate_left
      · go_simp
        all_goals with_reducible rfl
      simp only [Act.put, List.setIfInBounds_toArray, List.set_cons_zero, List.set_cons_succ]
      refine ord_take (v := ?_) (i := 5) (fuel := 10) (by simp; rfl) (by kernel_rfl) (by kernel_rfl) (by kernel_rfl) (Or.inl ⟨by rfl, fun w' hSw => ?_⟩) H4.out.drew ?_
      rotate_left
      · go_simp
        all_goals with_reducible rfl
      simp only [Act.put, List.setIfInBounds_toArray, List.set_cons_zero, List.set_cons_succ]
      refine ord_take (v := ?_) (i := 6) (fuel := 9) (by simp; rfl) (by kernel_rfl) (by kernel_rfl) (by kernel_rfl) (Or.inl ⟨by rfl, fun w' hSw => ?_⟩) H4.out.drew ?_
      rotate_left
      · go_simp
        all_goals with_reducible rfl
      simp only [Act.put, List.setIfInBounds_toArray, List.set_cons_zero, List.set_cons_succ]
      refine ord_take (v := ?_) (i := 7) (fuel := 8) (by simp; rfl) (by kernel_rfl) (by kernel_rfl) (by kernel_rfl) (Or.inl ⟨by rfl, fun w' hSw => ?_⟩) H4.out.drew ?_
      rotate_left
      · dsimp only at hSw
        obtain ⟨lp, x0, x1, x2, x3, x4⟩ := hSw.cells
        go_simp
        all_goals with_reducible rfl
      simp only [Act.put, List.setIfInBounds_toArray, List.set_cons_zero, List.set_cons_succ]
      refine ord_take (v := ?_) (i := 8) (fuel := 7) (by simp; rfl) (by kernel_rfl) (by kernel_rfl) (by kernel_rfl) (Or.inl ⟨by rfl, fun w' hSw => ?_⟩) H4.out.drew ?_
      rotate_left
      · go_simp
        all_goals with_reducible rfl
      simp only [Act.put, List.setIfInBounds_toArray, List.set_cons_zero, List.set_cons_succ]
      refine ord_take (v := ?_) (i := 9) (fuel := 6) (by simp; rfl) (by kernel_rfl) (by kernel_rfl) (by kernel_rfl) (Or.inl ⟨by rfl, fun w' hSw => ?_⟩) H4.out.drew ?_
      rotate_left
      · go_simp
        all_goals with_reducible rfl
      simp only [Act.put, List.setIfInBounds_toArray, List.set_cons_zero, List.set_cons_succ]
      refine ord_take (v := ?_) (i := 10) (fuel := 5) (by simp; rfl) (by kernel_rfl) (by kernel_rfl) (by kernel_rfl) (Or.inl ⟨by rfl, fun w' hSw => ?_⟩) H4.out.drew ?_
      rotate_left
      · go_simp
        all_goals with_reducible rfl
      simp only [Act.put, List.setIfInBounds_toArray, List.set_cons_zero, List.set_cons_succ]
      refine ord_take (v := ?_) (i := 11) (fuel := 4) (by simp; rfl) (by kernel_rfl) (by kernel_rfl) (by kernel_rfl) (Or.inl ⟨by rfl, fun w' hSw => ?_⟩) H4.out.drew ?_
      rotate_left
      · dsimp only at hSw
        obtain ⟨lp, x0, x1, x2, x3, x4⟩ := hSw.cells
        go_simp
        all_goals with_reducible rfl
      simp only [Act.put, List.setIfInBounds_toArray, List.set_cons_zero, List.set_cons_succ]
      refine ord_take (v := ?_) (i := 12) (fuel := 3) (by simp; rfl) (by kernel_rfl) (by kernel_rfl) (by kernel_rfl) (Or.inl ⟨by rfl, fun w' hSw => ?_⟩) H4.out.drew ?_
      rotate_left
      · go_simp
        all_goals with_reducible rfl
      simp only [Act.put, List.setIfInBounds_toArray, List.set_cons_zero, List.set_cons_succ]
      refine ord_take (v := ?_) (i := 13) (fuel := 2) (by simp; rfl) (by kernel_rfl) (by kernel_rfl) (by kernel_rfl) (Or.inl ⟨by rfl, fun w' hSw => ?_⟩) H4.out.drew ?_
      rotate_left
      · go_simp
        all_goals with_reducible rfl
      simp only [Act.put, List.setIfInBounds_toArray, List.set_cons_zero, List.set_cons_succ]
      clear hwr
      have HS4d := Lib.hid (show RsS w4.drew g d n s from HS4.out)
      have HBs4d := Lib.hid (show Bs w4.drew w4.drew.heap.size (some ⟨gb, 0, none⟩) nx cb (frameB u ⟨q, t⟩) from HBs4.out)
      refine ord_call (f := 21) (args := #[.pointer (some ⟨g, 0, none⟩), .int .i64 (a + (u : Int)), .slice (some ⟨gb, 0, none⟩) nx cb]) (w1 := w4.drew) (i := 14) (fuel := 1) (by simp; rfl) (by kernel_rfl) (by rfl) ?_ ?_
      · go_simp
        all_goals with_reducible rfl
      (with_reducible refine (refWrite_w (a + (u : Int)) _ nx cb _ K HW.out HS4d.out HBs4d.out HO.out (by omega) HA9.out).mono ?_)
      rintro e w5 ⟨rfl, hs2, hb2⟩
      have HS5 := Lib.hid hs2
      have HB5 := Lib.hid (((But.refl [g, d] w4).drew).trans hb2)
      have H5 := Lib.hid (H4.out.slab HX.out.1 HX.out.2 HB5.out)
      clear hs2 hb2
      refine ⟨_, rfl, H5.out, ?_⟩
      simp only [Act.put, List.setIfInBounds_toArray, List.set_cons_zero, List.set_cons_succ]
      refine ord_take (v := ?_) (i := 15) (fuel := 0) (by simp; rfl) (by kernel_rfl) (by kernel_rfl) (by kernel_rfl) (Or.inl ⟨by rfl, fun w' hSw => ?_⟩) H5.out ?_
      rotate_left
      · go_simp
        all_goals with_reducible rfl
      simp only [Act.put, List.setIfInBounds_toArray, List.set_cons_zero, List.set_cons_succ]
      refine ord_done (by kernel_rfl) ?_ _
      go_wp2_with fail
      go_meet
      case rel => exact ⟨rfl, HS5.out, HB5.out⟩
    case rest =>
      as_aux_lemma =>
      obtain ⟨rfl, hs2, hb2⟩ := hcut
      obtain ⟨w5, rfl⟩ : ∃ W : World, W = wc := ⟨_, rfl⟩
      have HS5 := Lib.hid hs2
      have H5 := Lib.hid (H4.out.slab HX.out.1 HX.out.2 hb2)
      have HB5 := Lib.hid ((But.of_below HB4.out [g, d]).trans hb2)
      clear hs2 hb2 hwr H4 HS4 HBs4
      cases β with
      | false =>
        go_wp2
        go_ret
        rw [HE.out]
        exact ⟨rfl, A, c, H5.out, HS5.out, HB5.out.more (by intro k hk; simp only [List.mem_cons, List.not_mem_nil, or_false] at hk ⊢; rcases hk with rfl | rfl; exact .inr (.inl rfl); exact .inr (.inr (.inl rfl)))⟩
      | true =>
        obtain ⟨k3, hk3⟩ : ∃ k3, w5.heap.size = k3 := ⟨_, rfl⟩
        obtain ⟨W3, hW3⟩ : ∃ W3, w5.alloc (.cells #[.int .i64 q, .string ⟨t.toArray⟩] 74) = W3 := ⟨_, rfl⟩
        have hb3 : Below w5.heap.size w5 W3 := by rw [← hW3]; exact (Below.refl _ _).alloc (Nat.le_refl _) _
        have HK3 := Lib.hid (show Blk W3 k3 74 #[.int .i64 q, .string ⟨t.toArray⟩] by rw [← hW3, ← hk3]; exact Blk.new _ _ _)
        have H3 := Lib.hid (H5.out.below hb3)
        have HS3 := Lib.hid (HS5.out.below hb3)
        have hB3 : B ≤ W3.heap.size := by have := HB5.out.size; have := hb3.size; omega
        have hL3 : L.length ≤ 1000000 := by omega
        obtain ⟨k', c2, w6, hrun, hR6, hb6, c6, f6, hb6'⟩ := H3.out.app Try.refRecs Try.refRecI (by decide) ⟨q, t⟩ HK3.out hL3 hB3 49
        have HR6 := Lib.hid hR6
        have HS6 := Lib.hid (HS3.out.but hb6 HX.out.1 HX.out.2)
        have HB6 := Lib.hid (((HB5.out.more (ex' := p :: g :: d :: rowOf A) (by intro k hk; simp only [List.mem_cons, List.not_mem_nil, or_false] at hk ⊢; rcases hk with rfl | rfl; exact .inr (.inl rfl); exact .inr (.inr (.inl rfl)))).trans (But.of_below hb3 _)).trans (hb6.more (by intro k hk; simp only [List.mem_cons] at hk ⊢; rcases hk with rfl | hk; exact .inl rfl; exact .inr (.inr (.inr hk)))))
        obtain ⟨lp, x0, x1, x2, x3, x4⟩ := H5.out.cells
        obtain ⟨W4, hW4⟩ : ∃ W4, w6.setCell ⟨p, 3, none⟩ (.slice (some ⟨k', 0, none⟩) (L.length + 1) c2) = W4 := ⟨_, rfl⟩
        have hcs := hR6.cells
        have hf4 := hR6.1.frozen 4
        rw [hW4] at HR6 HS6 HB6 hcs hf4
        obtain ⟨_, y0, y1, y2, y3, y4⟩ := hcs
        clear hR6 hb6 hb6' hb3
        go_wp2_with (at_builtin; refine wpList_appRun (w' := w6) (v' := .slice (some ⟨k', 0, none⟩) (L.length + 1) c2) rfl (.tmp 57) (.tmp 61) rfl rfl rfl hrun ?_)
        clear hW4 hW3 hk3 hrun c6 f6 y0 y1 y2 y3 y4 x0 x1 x2 x3 x4
        go_ret
        rw [HE.out]
        have hR7 := HR6.out.setU (by decide) (u + nx)
        rw [Int.natCast_add] at hR7
        refine ⟨rfl, some ⟨k', 0, none⟩, c2, hR7, ?_, HB6.out.setCell (p := ⟨p, 4, none⟩) (by simp) _⟩
        exact HS6.out.but (ex := [p]) ((But.refl [p] W4).setCell (p := ⟨p, 4, none⟩) (by simp) _) (by intro hm; exact HX.out.1 (by simp at hm; simp [hm])) (by intro hm; exact HX.out.2 (by simp at hm; simp [hm]))
end Go.Proofs.Ytkjckdndkljeeaa

/- QuantKnown's walk. -/
import Derived.Test.YtkaflkofffgndaaDoorQKnownA
import Derived.Test.YtkaflkofffgndaaDoorTextF
import Derived.Test.YtkaflkofffgndaaDoorOrd
import Derived.Deep.CutBlock
import Derived.Deep.DeepCutAuto
namespace Go.Proofs.YtkaflkofffgndaaDoor
open Go.RowKit
theorem k_big : DecIs false 5076944270305263615 54210108624 (zOf false (numL ([57, 57, 57, 57, 57, 57, 57, 57, 57, 57, 57, 57, 57, 57, 57, 57, 57, 57, 57, 57, 57, 57, 57, 57, 57, 57, 57, 57, 57, 57] ++ []))) := by
  refine ⟨by decide +kernel, by unfold U64; omega, by unfold U64; omega, by decide +kernel⟩
theorem k_readB (m : Int) (w : World) (HMC : w.cell? ⟨0, 0, none⟩ = some (.int .i64 m)) : Calls Tryd.prog 9 #[.string ⟨#[57, 57, 57, 57, 57, 57, 57, 57, 57, 57, 57, 57, 57, 57, 57, 57, 57, 57, 57, 57, 57, 57, 57, 57, 57, 57, 57, 57, 57, 57]⟩] w (Ret w (· = .tuple #[.agg #[.bool false, .int .u64 5076944270305263615, .int .u64 54210108624, .int .i64 0], .int .i64 0])) :=
  (read_c false [57, 57, 57, 57, 57, 57, 57, 57, 57, 57, 57, 57, 57, 57, 57, 57, 57, 57, 57, 57, 57, 57, 57, 57, 57, 57, 57, 57, 57, 57] [] m w (by decide) (by decide) (by decide +kernel) (by decide) (by rfl) (by decide +kernel) (fun e => by cases e) HMC).mono fun e w' ⟨v, ⟨n, a, b, hd, ev⟩, he, hb⟩ => by
    obtain ⟨rfl, rfl, rfl⟩ := decIs_one hd k_big
    exact ⟨v, ev, he, hb⟩
theorem print_k (n : Bool) (a b s : Int) (N : Nat) (L : List UInt8) (w : World) (ha : U64 a) (hb : U64 b) (hr : RightD n a b s) (hN : v2 a b = N) (htab : Lib.TabIs Tryd.prog w "internal/strconv.uint64pow10" .u64 Lib.pow10Tab) (hL : printL n N s = L) :
    Calls Tryd.prog 11 #[.agg #[.bool n, .int .u64 a, .int .u64 b, .int .i64 s]] w (Ret w (· = .string ⟨L.toArray⟩)) := by
  subst hL
  exact print_c n a b s w ha hb hr N hN htab
theorem u64_k {a : Int} (h : 0 ≤ a ∧ a < 18446744073709551616) : U64 a := h
theorem ret_is {w : World} {Q : Value → Prop} {V : Value} (hQ : ∀ v, Q v → v = V) : ∀ e w', Ret w Q e w' → Ret w (· = V) e w' := fun _ _ ⟨v, hv, he, hb⟩ => ⟨v, hQ v hv, he, hb⟩
section
variable {n n' : Bool} {a b s a' b' s' t m : Int} {w : World} {V : Value}
theorem div_k (ha : U64 a) (hb : U64 b) (ha' : U64 a') (hb' : U64 b') (hV : divV n a b s n' a' b' s' t m = V) :
    Calls Tryd.prog 6 #[.agg #[.bool n, .int .u64 a, .int .u64 b, .int .i64 s], .agg #[.bool n', .int .u64 a', .int .u64 b', .int .i64 s'], .int .i64 t, .int .i64 m] w (Ret w (· = V)) := by
  subst hV
  exact (div_all n a b s n' a' b' s' t m w ha hb ha' hb').mono (ret_is fun v h => ans_eq h)
theorem times_k (ha : U64 a) (hb : U64 b) (ha' : U64 a') (hb' : U64 b') (hV : timesV n a b s n' a' b' s' t m = V) :
    Calls Tryd.prog 7 #[.agg #[.bool n, .int .u64 a, .int .u64 b, .int .i64 s], .agg #[.bool n', .int .u64 a', .int .u64 b', .int .i64 s'], .int .i64 t, .int .i64 m] w (Ret w (· = V)) := by
  subst hV
  exact (times_all n a b s n' a' b' s' t m w ha hb ha' hb').mono (ret_is fun v h => ans_eq h)
theorem unit_k (ha : U64 a) (hb : U64 b) (ha' : U64 a') (hb' : U64 b') (hV : unitV n a b s n' a' b' s' m = V) :
    Calls Tryd.prog 8 #[.agg #[.bool n, .int .u64 a, .int .u64 b, .int .i64 s], .agg #[.bool n', .int .u64 a', .int .u64 b', .int .i64 s'], .int .i64 m] w (Ret w (· = V)) := by
  subst hV
  exact (unit_all n a b s n' a' b' s' m w ha hb ha' hb').mono (ret_is fun v h => ans_eq h)
theorem quant_k (ha : U64 a) (hb : U64 b) (hV : quantV n a b s t m = V) :
    Calls Tryd.prog 4 #[.agg #[.bool n, .int .u64 a, .int .u64 b, .int .i64 s], .int .i64 t, .int .i64 m] w (Ret w (· = V)) := by
  subst hV
  exact (quant_all n a b s t m w ha hb).mono (ret_is fun v h => ans_eq h)
end
theorem ord_two {P : Program} {ops : Array Oper} {Q : Exit → Act → World → Prop} {md : Region.Mode} {S : World → Prop} {i j : Nat} {oi oj : Oper} {fuel : Nat} {listed : Array Bool} {a : Act} {w : World} (hi : ops[i]? = some oi) (hj : ops[j]? = some oj) (hr : Region.ready md ops listed = [i, j])
    (h1 : NoP P ops oi a w fun v w' => S w' ∧ OrdH P md ops Q S fuel (listed.setIfInBounds i true) (a.put oi.dst v) w') (h2 : NoP P ops oj a w fun v w' => S w' ∧ OrdH P md ops Q S fuel (listed.setIfInBounds j true) (a.put oj.dst v) w') : OrdH P md ops Q S (fuel + 1) listed a w := by
  refine ⟨fun h => (by rw [h] at hr; cases hr), fun k hk ok hok => ?_⟩
  rw [hr] at hk
  rcases (show k = i ∨ k = j by simpa using hk) with rfl | rfl
  · rw [hi] at hok
    cases hok
    exact h1
  · rw [hj] at hok
    cases hok
    exact h2
theorem HB.ne_new {w0 x : World} {bs : List (Nat × TypeId × Array Value)} (h : HB w0 bs x) {g : Nat} (hg : x.heap.size ≤ g) : ∀ b ∈ bs, b.1 ≠ g := fun b hm => by have := (h.2 b hm).lt; omega
set_option maxRecDepth 100000 in
set_option maxHeartbeats 6400000 in
theorem quantKnown_c (m : Int) (w : World) (hm : w.cell? ⟨0, 0, none⟩ = some (.int .i64 m)) (htab : Lib.TabIs Tryd.prog w "internal/strconv.uint64pow10" .u64 Lib.pow10Tab) : Calls Tryd.prog 3 #[] w (Ret w (IsBool true)) := by
  have HT := Lib.hid htab
  have HM := Lib.hid hm
  clear htab hm
  go_enter Tryd.func3, Tryd.ntmps3
  go_upto_region 1 with fail
  refine wp_region_lit ?_
  refine wpList_val (v := .agg #[.int .i64 2, .int .i64 (-2), .int .i64 2, .int .i64 3]) (w' := w) rfl (by kernel_rfl) ?_
  simp only [Act.put, List.setIfInBounds_toArray, List.set_cons_zero, List.set_cons_succ]
  refine wpList_val (v := .agg #[.int .i64 3, .int .i64 (-3), .int .i64 3, .int .i64 4]) (w' := w) rfl (by kernel_rfl) ?_
  simp only [Act.put, List.setIfInBounds_toArray, List.set_cons_zero, List.set_cons_succ]
  refine wpList_val (v := .agg #[.int .i64 2, .int .i64 (-3), .int .i64 2, .int .i64 3]) (w' := w) rfl (by kernel_rfl) ?_
  simp only [Act.put, List.setIfInBounds_toArray, List.set_cons_zero, List.set_cons_succ]
  refine wpList_val (v := .agg #[.int .i64 3, .int .i64 (-3), .int .i64 2, .int .i64 4]) (w' := w) rfl (by kernel_rfl) ?_
  simp only [Act.put, List.setIfInBounds_toArray, List.set_cons_zero, List.set_cons_succ]
  refine wpList_val (v := .agg #[.int .i64 2, .int .i64 (-2), .int .i64 2, .int .i64 4]) (w' := w) rfl (by kernel_rfl) ?_
  simp only [Act.put, List.setIfInBounds_toArray, List.set_cons_zero, List.set_cons_succ]
  refine wpList_val (v := .agg wantA) (w' := w) rfl (by kernel_rfl) ?_
  simp only [Act.put, List.setIfInBounds_toArray, List.set_cons_zero, List.set_cons_succ]
  refine wpList_val (v := .pointer (some ⟨w.heap.size, 0, none⟩)) (w' := w.alloc (.cells #[.int .i64 0, .int .i64 0, .int .i64 0, .int .i64 0, .int .i64 0, .int .i64 0, .int .i64 0, .int .i64 0, .int .i64 0, .int .i64 0, .int .i64 0, .int .i64 0, .int .i64 0, .int .i64 0, .int .i64 0, .int .i64 0, .int .i64 0, .int .i64 0, .int .i64 0, .int .i64 0] 23)) rfl (by kernel_rfl) ?_
  simp only [Act.put, List.setIfInBounds_toArray, List.set_cons_zero, List.set_cons_succ]
  refine wpList_skp (w' := w.alloc (.cells wantA 23)) rfl ?_ ?_
  · show ((do Instr.storeAt 23 (.pointer (some ⟨w.heap.size, 0, none⟩)) (.agg wantA); pure Next.skip) : Sem Next).run Tryd.prog (w.alloc (.cells #[.int .i64 0, .int .i64 0, .int .i64 0, .int .i64 0, .int .i64 0, .int .i64 0, .int .i64 0, .int .i64 0, .int .i64 0, .int .i64 0, .int .i64 0, .int .i64 0, .int .i64 0, .int .i64 0, .int .i64 0, .int .i64 0, .int .i64 0, .int .i64 0, .int .i64 0, .int .i64 0] 23)) = _
    simp only [Sem.run_bind, want_st1 w, Result.andThen_ok, Sem.run_pure]
  refine wpList_nil ?_
  go_wp2
  go_loopw [2] (fun mv wr => ∃ k : Nat, k ≤ 5 ∧ mv = .int .i64 k ∧ HB w [(w.heap.size, 23, wantA)] wr) (fun mv _ => 5 - (intOf mv).toNat)
  case atStart => exact ⟨0, by omega, rfl, (HB.start (Below.refl _ _)).push wantA _⟩
  case round =>
    obtain ⟨k, hk, rfl, hV⟩ := hrel
    by_cases hlt : k < 5
    · as_aux_lemma =>
      have hlt' : (k : Int) < 5 := by omega
      have V0 := Lib.hid hV
      clear hV
      go_wp2
      obtain ⟨wo, rfl⟩ : ∃ wo : World, wo = wr := ⟨_, rfl⟩
      go_loopw [44] (fun iv wr => ∃ i : Nat, i ≤ 4 ∧ iv = .int .i64 i ∧ HB w [(w.heap.size, 23, wantA)] wr) (fun iv _ => 4 - (intOf iv).toNat)
      case atStart => exact ⟨0, by omega, rfl, V0.out⟩
      case round =>
        clear V0
        obtain ⟨i, hi, rfl, hV⟩ := hrel
        have V := Lib.hid hV
        clear hV
        by_cases hlt2 : i < 4
        · as_aux_lemma =>
          have hlt2' : (i : Int) < 4 := by omega
          obtain ⟨n, sn, an, hidx, hD, n0, n1, hcase⟩ := kidx4 i hlt2
          obtain ⟨z, zn, za, hq, hwant, hZ, z0, z1⟩ := hcase k hlt
          have HD := Lib.hid hD
          have HQ := Lib.hid hq
          have HW := Lib.hid hwant
          have HZ := Lib.hid hZ
          clear hcase hD hq hwant hZ
          go_wp2_with fail
          refine (dOf_v n 1 sn an 0 _ n0 n1 (by decide) (by decide) HD.out).mono ?_
          rintro e x1 ⟨_, rfl, rfl, hb⟩
          have V1 := Lib.hid (V.out.below hb)
          clear hb V hidx
          go_wp2_with fail
          refine (quant_all sn an 0 1 0 k _ HD.out.2.1 u64_0).mono ?_
          rintro e x2 ⟨v, hv, rfl, hb⟩
          have ev := ans_eq hv
          rw [HQ.out] at ev
          subst ev
          have V2 := Lib.hid ((V1.out.below hb).push #[.bool zn, .int .u64 za, .int .u64 0, .int .i64 0] 27)
          clear hb hv V1
          have he := eqDec_iff.2 (⟨rfl, rfl, rfl, rfl⟩ : zn = zn ∧ za = za ∧ (0 : Int) = 0 ∧ (0 : Int) = 0)
          have he2 := eqW2_yes (a := za) (b := 0) (c := za) (d := 0) ⟨rfl, rfl⟩
          go_upto_region 9 with fail
          as_aux_lemma =>
          refine wp_region_det (S := fun w' => HB w [(x2.heap.size, 27, #[.bool zn, .int .u64 za, .int .u64 0, .int .i64 0]), (w.heap.size, 23, wantA)] w') (by kernel_rfl) (HB.drew V2.out) ?_
          refine det_take (v := ?_) (i := 0) (fuel := 11) (by simp; rfl) (by kernel_rfl) (by kernel_rfl) (by kernel_rfl) (Or.inl ⟨by rfl, fun w' hS => Or.inl ⟨w', ?_, hS⟩⟩) ?_
          rotate_left
          · go_simp
            all_goals with_reducible rfl
          simp only [Act.put, List.setIfInBounds_toArray, List.set_cons_zero, List.set_cons_succ]
          refine det_take (v := ?_) (i := 1) (fuel := 10) (by simp; rfl) (by kernel_rfl) (by kernel_rfl) (by kernel_rfl) (Or.inl ⟨by rfl, fun w' hS => Or.inl ⟨w', ?_, hS⟩⟩) ?_
          rotate_left
          · go_simp
            all_goals with_reducible rfl
          simp only [Act.put, List.setIfInBounds_toArray, List.set_cons_zero, List.set_cons_succ]
          refine det_take (v := ?_) (i := 2) (fuel := 9) (by simp; rfl) (by kernel_rfl) (by kernel_rfl) (by kernel_rfl) (Or.inl ⟨by rfl, fun w' hS => Or.inl ⟨w', ?_, hS⟩⟩) ?_
          rotate_left
          · go_simp
            all_goals with_reducible rfl
          simp only [Act.put, List.setIfInBounds_toArray, List.set_cons_zero, List.set_cons_succ]
          refine det_take (v := ?_) (i := 3) (fuel := 8) (by simp; rfl) (by kernel_rfl) (by kernel_rfl) (by kernel_rfl) (Or.inl ⟨by rfl, fun w' hS => Or.inl ⟨w', ?_, hS⟩⟩) ?_
          rotate_left
          · obtain ⟨ql, q0, q1, q2, q3⟩ := HB.dec (t := 27) (g := x2.heap.size) (a := .bool zn) (b := .int .u64 za) (c := .int .u64 0) (d := .int .i64 0) hS (by simp)
            go_simp
            all_goals with_reducible rfl
          simp only [Act.put, List.setIfInBounds_toArray, List.set_cons_zero, List.set_cons_succ]
          refine det_take (v := ?_) (i := 4) (fuel := 7) (by simp; rfl) (by kernel_rfl) (by kernel_rfl) (by kernel_rfl) (Or.inl ⟨by rfl, fun w' hS => Or.inl ⟨w', ?_, hS⟩⟩) ?_
          rotate_left
          · go_simp
            all_goals with_reducible rfl
          simp only [Act.put, List.setIfInBounds_toArray, List.set_cons_zero, List.set_cons_succ]
          refine det_take (v := ?_) (i := 5) (fuel := 6) (by simp; rfl) (by kernel_rfl) (by kernel_rfl) (by kernel_rfl) (Or.inl ⟨by rfl, fun w' hS => Or.inl ⟨w', ?_, hS⟩⟩) ?_
          rotate_left
          · go_simp
            all_goals with_reducible rfl
          simp only [Act.put, List.setIfInBounds_toArray, List.set_cons_zero, List.set_cons_succ]
          refine det_take (v := ?_) (i := 6) (fuel := 5) (by simp; rfl) (by kernel_rfl) (by kernel_rfl) (by kernel_rfl) (Or.inl ⟨by rfl, fun w' hS => Or.inl ⟨w', ?_, hS⟩⟩) ?_
          rotate_left
          · go_simp
            all_goals with_reducible rfl
          simp only [Act.put, List.setIfInBounds_toArray, List.set_cons_zero, List.set_cons_succ]
          refine det_take (v := ?_) (i := 7) (fuel := 4) (by simp; rfl) (by kernel_rfl) (by kernel_rfl) (by kernel_rfl) (Or.inl ⟨by rfl, fun w' hS => Or.inl ⟨w', ?_, hS⟩⟩) ?_
          rotate_left
          · go_simp
            all_goals with_reducible rfl
          simp only [Act.put, List.setIfInBounds_toArray, List.set_cons_zero, List.set_cons_succ]
          refine det_take (v := ?_) (i := 8) (fuel := 3) (by simp; rfl) (by kernel_rfl) (by kernel_rfl) (by kernel_rfl) (Or.inl ⟨by rfl, fun w' hS => Or.inl ⟨w', ?_, hS⟩⟩) ?_
          rotate_left
          · have Bz := HB.blk (g := w.heap.size) (t := 23) (cs := wantA) hS (by simp)
            have ck : w'.cell? ⟨w.heap.size, k * 4 + i, none⟩ = some (.int .i64 z) := by rw [Bz.cell]; exact HW.out
            clear Bz
            go_simp
            all_goals with_reducible rfl
          simp only [Act.put, List.setIfInBounds_toArray, List.set_cons_zero, List.set_cons_succ]
          refine det_take (v := ?_) (i := 9) (fuel := 2) (by simp; rfl) (by kernel_rfl) (by kernel_rfl) (by kernel_rfl) (Or.inl ⟨by rfl, fun w' hS => Or.inr ⟨5, #[.int .i64 z, .int .i64 0], w', ?_, ?_⟩⟩) ?_
          rotate_left
          · go_simp
            all_goals with_reducible rfl
          · exact (flat (dOf_v z 0 zn za 0 w' z0 z1 (by decide) (by decide) HZ.out)).mono fun e w2 h => ⟨by rw [h.1], HB.below hS h.2⟩
          simp only [Act.put, List.setIfInBounds_toArray, List.set_cons_zero, List.set_cons_succ]
          refine det_take (v := ?_) (i := 10) (fuel := 1) (by simp; rfl) (by kernel_rfl) (by kernel_rfl) (by kernel_rfl) (Or.inl ⟨by rfl, fun w' hS => Or.inl ⟨w', ?_, hS⟩⟩) ?_
          rotate_left
          · go_simp
            all_goals with_reducible rfl
          simp only [Act.put, List.setIfInBounds_toArray, List.set_cons_zero, List.set_cons_succ]
          refine det_take (v := ?_) (i := 11) (fuel := 0) (by simp; rfl) (by kernel_rfl) (by kernel_rfl) (by kernel_rfl) (Or.inl ⟨by rfl, fun w' hS => Or.inl ⟨w', ?_, hS⟩⟩) ?_
          rotate_left
          · go_simp
            all_goals with_reducible rfl
          simp only [Act.put, List.setIfInBounds_toArray, List.set_cons_zero, List.set_cons_succ]
          refine det_done (by kernel_rfl) (fun V hV => ?_) _
          have V3 := Lib.hid (HB.sub (bs' := [(w.heap.size, 23, wantA)]) hV (by simp))
          clear hV V2
          as_aux_lemma =>
          go_wp2
          go_roundw
          case rel => exact ⟨i + 1, by omega, by go_num, V3.out⟩
          case measure => simp [intOf]; omega
        · obtain rfl : i = 4 := by omega
          go_wp2
          go_roundw
          case rel => exact ⟨k + 1, by omega, by go_num, V.out⟩
          case measure => simp [intOf]; omega
    · obtain rfl : k = 5 := by omega
      clear hk hlt
      have V0 : HB w [] wr := HB.sub (bs' := []) hV (by simp)
      clear hV
      go_wp2_with fail
      (with_reducible refine (dOf_v 1 0 false 1 0 _ (by decide) (by decide) (by decide) (by decide) (decIs_n (by decide) (by decide) (by decide))).mono ?_)
      rintro e x1 ⟨_, rfl, rfl, hb⟩
      have V1 := V0.below hb
      clear hb V0
      go_wp2_with fail
      (with_reducible refine (dOf_v 3 0 false 3 0 _ (by decide) (by decide) (by decide) (by decide) (decIs_n (by decide) (by decide) (by decide))).mono ?_)
      rintro e x2 ⟨_, rfl, rfl, hb⟩
      have V2 := V1.below hb
      clear hb V1
      go_wp2_with fail
      (with_reducible refine (div_k (V := .tuple #[.agg #[.bool false, .int .u64 333333333, .int .u64 0, .int .i64 9], .int .i64 0]) (u64_k (by decide)) (u64_k (by decide)) (u64_k (by decide)) (u64_k (by decide)) (by kernel_rfl)).mono ?_)
      rintro e x3 ⟨_, rfl, rfl, hb⟩
      have V3 := V2.below hb
      clear hb V2
      have V4 := V3.push #[.bool false, .int .u64 333333333, .int .u64 0, .int .i64 9] 27
      clear V3
      go_wp2_with fail
      (with_reducible refine (dOf_v (-2) 0 true 2 0 _ (by decide) (by decide) (by decide) (by decide) (decIs_n (by decide) (by decide) (by decide))).mono ?_)
      rintro e x5 ⟨_, rfl, rfl, hb⟩
      have V5 := V4.below hb
      clear hb V4
      go_wp2_with fail
      (with_reducible refine (dOf_v 3 2 false 3 0 _ (by decide) (by decide) (by decide) (by decide) (decIs_n (by decide) (by decide) (by decide))).mono ?_)
      rintro e x6 ⟨_, rfl, rfl, hb⟩
      have V6 := V5.below hb
      clear hb V5
      go_wp2_with fail
      (with_reducible refine (div_k (V := .tuple #[.agg #[.bool true, .int .u64 667, .int .u64 0, .int .i64 1], .int .i64 0]) (u64_k (by decide)) (u64_k (by decide)) (u64_k (by decide)) (u64_k (by decide)) (by kernel_rfl)).mono ?_)
      rintro e x7 ⟨_, rfl, rfl, hb⟩
      have V7 := V6.below hb
      clear hb V6
      have V8 := V7.push #[.bool true, .int .u64 667, .int .u64 0, .int .i64 1] 27
      clear V7
      go_wp2_with fail
      (with_reducible refine (dOf_v 1 0 false 1 0 _ (by decide) (by decide) (by decide) (by decide) (decIs_n (by decide) (by decide) (by decide))).mono ?_)
      rintro e x9 ⟨_, rfl, rfl, hb⟩
      have V9 := V8.below hb
      clear hb V8
      go_wp2_with fail
      (with_reducible refine (dOf_v 0 3 false 0 0 _ (by decide) (by decide) (by decide) (by decide) (decIs_n (by decide) (by decide) (by decide))).mono ?_)
      rintro e x10 ⟨_, rfl, rfl, hb⟩
      have V10 := V9.below hb
      clear hb V9
      go_wp2_with fail
      (with_reducible refine (div_k (V := .tuple #[.agg #[.bool false, .int .u64 0, .int .u64 0, .int .i64 0], .int .i64 4]) (u64_k (by decide)) (u64_k (by decide)) (u64_k (by decide)) (u64_k (by decide)) (by kernel_rfl)).mono ?_)
      rintro e x11 ⟨_, rfl, rfl, hb⟩
      have V11 := V10.below hb
      clear hb V10
      have V12 := V11.alloc (.cells #[.bool false, .int .u64 0, .int .u64 0, .int .i64 0] 27)
      clear V11
      go_wp2_with fail
      (with_reducible refine (dOf_v 1 0 false 1 0 _ (by decide) (by decide) (by decide) (by decide) (decIs_n (by decide) (by decide) (by decide))).mono ?_)
      rintro e x13 ⟨_, rfl, rfl, hb⟩
      have V13 := V12.below hb
      clear hb V12
      go_wp2_with fail
      (with_reducible refine (quant_k (V := .tuple #[.agg #[.bool false, .int .u64 0, .int .u64 0, .int .i64 0], .int .i64 1]) (u64_k (by decide)) (u64_k (by decide)) (by kernel_rfl)).mono ?_)
      rintro e x14 ⟨_, rfl, rfl, hb⟩
      have V14 := V13.below hb
      clear hb V13
      have V15 := V14.alloc (.cells #[.bool false, .int .u64 0, .int .u64 0, .int .i64 0] 27)
      clear V14
      go_wp2_with fail
      (with_reducible refine (dOf_v 1 0 false 1 0 _ (by decide) (by decide) (by decide) (by decide) (decIs_n (by decide) (by decide) (by decide))).mono ?_)
      rintro e x16 ⟨_, rfl, rfl, hb⟩
      have V16 := V15.below hb
      clear hb V15
      go_wp2_with fail
      (with_reducible refine (quant_k (V := .tuple #[.agg #[.bool false, .int .u64 0, .int .u64 0, .int .i64 0], .int .i64 1]) (u64_k (by decide)) (u64_k (by decide)) (by kernel_rfl)).mono ?_)
      rintro e x17 ⟨_, rfl, rfl, hb⟩
      have V17 := V16.below hb
      clear hb V16
      have V18 := V17.alloc (.cells #[.bool false, .int .u64 0, .int .u64 0, .int .i64 0] 27)
      clear V17
      go_wp2_with fail
      (with_reducible refine (dOf_v 5 9 false 5 0 _ (by decide) (by decide) (by decide) (by decide) (decIs_n (by decide) (by decide) (by decide))).mono ?_)
      rintro e x19 ⟨_, rfl, rfl, hb⟩
      have V19 := V18.below hb
      clear hb V18
      go_wp2_with fail
      (with_reducible refine (dOf_v 1 9 false 1 0 _ (by decide) (by decide) (by decide) (by decide) (decIs_n (by decide) (by decide) (by decide))).mono ?_)
      rintro e x20 ⟨_, rfl, rfl, hb⟩
      have V20 := V19.below hb
      clear hb V19
      go_wp2_with fail
      (with_reducible refine (times_k (V := .tuple #[.agg #[.bool false, .int .u64 1, .int .u64 0, .int .i64 9], .int .i64 0]) (u64_k (by decide)) (u64_k (by decide)) (u64_k (by decide)) (u64_k (by decide)) (by kernel_rfl)).mono ?_)
      rintro e x21 ⟨_, rfl, rfl, hb⟩
      have V21 := V20.below hb
      clear hb V20
      have V22 := V21.push #[.bool false, .int .u64 1, .int .u64 0, .int .i64 9] 27
      clear V21
      go_wp2_with fail
      (with_reducible refine (dOf_v 250 0 false 250 0 _ (by decide) (by decide) (by decide) (by decide) (decIs_n (by decide) (by decide) (by decide))).mono ?_)
      rintro e x23 ⟨_, rfl, rfl, hb⟩
      have V23 := V22.below hb
      clear hb V22
      go_wp2_with fail
      (with_reducible refine (dOf_v 100 0 false 100 0 _ (by decide) (by decide) (by decide) (by decide) (decIs_n (by decide) (by decide) (by decide))).mono ?_)
      rintro e x24 ⟨_, rfl, rfl, hb⟩
      have V24 := V23.below hb
      clear hb V23
      go_wp2_with fail
      (with_reducible refine (unit_k (V := .tuple #[.agg #[.bool false, .int .u64 200, .int .u64 0, .int .i64 0], .int .i64 0]) (u64_k (by decide)) (u64_k (by decide)) (u64_k (by decide)) (u64_k (by decide)) (by kernel_rfl)).mono ?_)
      rintro e x25 ⟨_, rfl, rfl, hb⟩
      have V25 := V24.below hb
      clear hb V24
      have V26 := V25.push #[.bool false, .int .u64 200, .int .u64 0, .int .i64 0] 27
      clear V25
      go_wp2_with fail
      (with_reducible refine (dOf_v (-37) 2 true 37 0 _ (by decide) (by decide) (by decide) (by decide) (decIs_n (by decide) (by decide) (by decide))).mono ?_)
      rintro e x27 ⟨_, rfl, rfl, hb⟩
      have V27 := V26.below hb
      clear hb V26
      go_wp2_with fail
      (with_reducible refine (dOf_v 25 2 false 25 0 _ (by decide) (by decide) (by decide) (by decide) (decIs_n (by decide) (by decide) (by decide))).mono ?_)
      rintro e x28 ⟨_, rfl, rfl, hb⟩
      have V28 := V27.below hb
      clear hb V27
      go_wp2_with fail
      (with_reducible refine (unit_k (V := .tuple #[.agg #[.bool true, .int .u64 25, .int .u64 0, .int .i64 2], .int .i64 0]) (u64_k (by decide)) (u64_k (by decide)) (u64_k (by decide)) (u64_k (by decide)) (by kernel_rfl)).mono ?_)
      rintro e x29 ⟨_, rfl, rfl, hb⟩
      have V29 := V28.below hb
      clear hb V28
      have V30 := V29.push #[.bool true, .int .u64 25, .int .u64 0, .int .i64 2] 27
      clear V29
      go_wp2_with fail
      (with_reducible refine (dOf_v 1 0 false 1 0 _ (by decide) (by decide) (by decide) (by decide) (decIs_n (by decide) (by decide) (by decide))).mono ?_)
      rintro e x31 ⟨_, rfl, rfl, hb⟩
      have V31 := V30.below hb
      clear hb V30
      go_wp2_with fail
      (with_reducible refine (dOf_v 0 0 false 0 0 _ (by decide) (by decide) (by decide) (by decide) (decIs_n (by decide) (by decide) (by decide))).mono ?_)
      rintro e x32 ⟨_, rfl, rfl, hb⟩
      have V32 := V31.below hb
      clear hb V31
      go_wp2_with fail
      (with_reducible refine (unit_k (V := .tuple #[.agg #[.bool false, .int .u64 0, .int .u64 0, .int .i64 0], .int .i64 1]) (u64_k (by decide)) (u64_k (by decide)) (u64_k (by decide)) (u64_k (by decide)) (by kernel_rfl)).mono ?_)
      rintro e x33 ⟨_, rfl, rfl, hb⟩
      have V33 := V32.below hb
      clear hb V32
      have V34 := V33.alloc (.cells #[.bool false, .int .u64 0, .int .u64 0, .int .i64 0] 27)
      clear V33
      go_wp2_with fail
      (with_reducible refine (k_readB m _ (cell_keep V34.bel HM.out)).mono ?_)
      rintro e x35 ⟨_, rfl, rfl, hb⟩
      have V35 := V34.below hb
      clear hb V34
      have V36 := V35.push #[.bool false, .int .u64 5076944270305263615, .int .u64 54210108624, .int .i64 0] 27
      clear V35
      obtain ⟨ql, q0, q1, q2, q3⟩ := HB.dec (t := 27) (g := x35.heap.size) (a := .bool false) (b := .int .u64 5076944270305263615) (c := .int .u64 54210108624) (d := .int .i64 0) V36 (by simp)
      go_wp2_with fail
      (with_reducible refine (quant_k (V := .tuple #[.agg #[.bool false, .int .u64 0, .int .u64 0, .int .i64 0], .int .i64 3]) (u64_k (by decide)) (u64_k (by decide)) (by kernel_rfl)).mono ?_)
      rintro e x37 ⟨_, rfl, rfl, hb⟩
      have V37 := V36.below hb
      clear hb V36
      clear ql q0 q1 q2 q3
      have V38 := V37.alloc (.cells #[.bool false, .int .u64 0, .int .u64 0, .int .i64 0] 27)
      clear V37
      go_upto_region 23 with fail
      go_cut [30] (fun e' wx => e' = .int .i64 3 ∧ HB w [(x35.heap.size, 27, #[.bool false, .int .u64 5076944270305263615, .int .u64 54210108624, .int .i64 0]), (x29.heap.size, 27, #[.bool true, .int .u64 25, .int .u64 0, .int .i64 2]), (x25.heap.size, 27, #[.bool false, .int .u64 200, .int .u64 0, .int .i64 0]), (x21.heap.size, 27, #[.bool false, .int .u64 1, .int .u64 0, .int .i64 9]), (x7.heap.size, 27, #[.bool true, .int .u64 667, .int .u64 0, .int .i64 1]), (x3.heap.size, 27, #[.bool false, .int .u64 333333333, .int .u64 0, .int .i64 9])] wx)
      case first => as_aux_lemma =>
        have VD := V38.drew
        refine wp_region_ord (S := fun W => HB w [(x35.heap.size, 27, #[.bool false, .int .u64 5076944270305263615, .int .u64 54210108624, .int .i64 0]), (x29.heap.size, 27, #[.bool true, .int .u64 25, .int .u64 0, .int .i64 2]), (x25.heap.size, 27, #[.bool false, .int .u64 200, .int .u64 0, .int .i64 0]), (x21.heap.size, 27, #[.bool false, .int .u64 1, .int .u64 0, .int .i64 9]), (x7.heap.size, 27, #[.bool true, .int .u64 667, .int .u64 0, .int .i64 1]), (x3.heap.size, 27, #[.bool false, .int .u64 333333333, .int .u64 0, .int .i64 9])] W) (by kernel_rfl) ?_
        refine ord_take (v := ?_) (i := 0) (fuel := 8) (by simp; rfl) (by kernel_rfl) (by kernel_rfl) (by kernel_rfl) (Or.inl ⟨by rfl, fun w' hSw => ?_⟩) VD ?_
        rotate_left
        · dsimp only at hSw
          obtain ⟨ql, q0, q1, q2, q3⟩ := HB.dec (t := 27) (g := x35.heap.size) (a := .bool false) (b := .int .u64 5076944270305263615) (c := .int .u64 54210108624) (d := .int .i64 0) hSw (by simp)
          go_simp
          all_goals with_reducible rfl
        simp only [Act.put, List.setIfInBounds_toArray, List.set_cons_zero, List.set_cons_succ]
        refine ord_two (i := 1) (j := 6) (fuel := 7) (by simp; rfl) (by simp; rfl) (by kernel_rfl) (Or.inl ⟨by rfl, Or.inr ⟨5, #[.int .i64 1, .int .i64 9], (x37.alloc (.cells #[.bool false, .int .u64 0, .int .u64 0, .int .i64 0] 27)).drew, ?_, ?_⟩⟩) (Or.inl ⟨by rfl, Or.inl ⟨.pointer (some ⟨(x37.alloc (.cells #[.bool false, .int .u64 0, .int .u64 0, .int .i64 0] 27)).drew.heap.size, 0, none⟩), (x37.alloc (.cells #[.bool false, .int .u64 0, .int .u64 0, .int .i64 0] 27)).drew.alloc (.cells #[.bool false, .int .u64 0, .int .u64 0, .int .i64 0] 27), ?_, VD.alloc _, ?_⟩⟩)
        · go_simp
          all_goals with_reducible rfl
        · refine (dOf_v 1 9 false 1 0 _ (by decide) (by decide) (by decide) (by decide) (decIs_n (by decide) (by decide) (by decide))).mono ?_
          rintro e xa ⟨_, rfl, rfl, hb⟩
          have VA := VD.below hb
          clear hb
          refine ⟨_, rfl, VA, ?_⟩
          simp only [Act.put, List.setIfInBounds_toArray, List.set_cons_zero, List.set_cons_succ]
          refine ord_two (i := 2) (j := 6) (fuel := 6) (by simp; rfl) (by simp; rfl) (by kernel_rfl) (Or.inl ⟨by rfl, Or.inr ⟨6, #[.agg #[.bool false, .int .u64 5076944270305263615, .int .u64 54210108624, .int .i64 0], .agg #[.bool false, .int .u64 1, .int .u64 0, .int .i64 9], .int .i64 0, .int .i64 0], xa, ?_, ?_⟩⟩) (Or.inl ⟨by rfl, Or.inl ⟨.pointer (some ⟨xa.heap.size, 0, none⟩), xa.alloc (.cells #[.bool false, .int .u64 0, .int .u64 0, .int .i64 0] 27), ?_, VA.alloc _, ?_⟩⟩)
          · go_simp
            all_goals with_reducible rfl
          · refine (div_k (V := .tuple #[.agg #[.bool false, .int .u64 0, .int .u64 0, .int .i64 0], .int .i64 3]) (u64_k (by decide)) (u64_k (by decide)) (u64_k (by decide)) (u64_k (by decide)) (by kernel_rfl)).mono ?_
            rintro e xb ⟨_, rfl, rfl, hb⟩
            have VB := VA.below hb
            have VC := VB.alloc (.cells #[.bool false, .int .u64 0, .int .u64 0, .int .i64 0] 27)
            clear hb
            refine ⟨_, rfl, VB, ?_⟩
            simp only [Act.put, List.setIfInBounds_toArray, List.set_cons_zero, List.set_cons_succ]
            refine ord_take (v := ?_) (i := 3) (fuel := 5) (by simp; rfl) (by kernel_rfl) (by kernel_rfl) (by kernel_rfl) (Or.inl ⟨by rfl, fun w' hSw => ?_⟩) VB ?_
            rotate_left
            · go_simp
              all_goals with_reducible rfl
            simp only [Act.put, List.setIfInBounds_toArray, List.set_cons_zero, List.set_cons_succ]
            refine ord_take (v := ?_) (i := 4) (fuel := 4) (by simp; rfl) (by kernel_rfl) (by kernel_rfl) (by kernel_rfl) (Or.inl ⟨by rfl, fun w' hSw => ?_⟩) VB ?_
            rotate_left
            · go_simp
              all_goals with_reducible rfl
            simp only [Act.put, List.setIfInBounds_toArray, List.set_cons_zero, List.set_cons_succ]
            refine ord_take (v := ?_) (i := 5) (fuel := 3) (by simp; rfl) (by kernel_rfl) (by kernel_rfl) (by kernel_rfl) (Or.inl ⟨by rfl, fun w' hSw => ?_⟩) VB ?_
            rotate_left
            · go_simp
              all_goals with_reducible rfl
            simp only [Act.put, List.setIfInBounds_toArray, List.set_cons_zero, List.set_cons_succ]
            refine ord_only (v := .pointer (some ⟨xb.heap.size, 0, none⟩)) (w' := xb.alloc (.cells #[.bool false, .int .u64 0, .int .u64 0, .int .i64 0] 27)) (i := 6) (fuel := 2) (by simp; rfl) (by kernel_rfl) (by rfl) ?_ VC ?_
            · go_simp
            simp only [Act.put, List.setIfInBounds_toArray, List.set_cons_zero, List.set_cons_succ]
            refine ord_skip (w' := xb.alloc (.cells #[.bool false, .int .u64 0, .int .u64 0, .int .i64 0] 27)) (i := 7) (fuel := 1) (by simp; rfl) (by kernel_rfl) (by rfl) rfl ?_ VC ?_
            · go_simp
            refine ord_take (v := ?_) (i := 8) (fuel := 0) (by simp; rfl) (by kernel_rfl) (by kernel_rfl) (by kernel_rfl) (Or.inl ⟨by rfl, fun w' hSw => ?_⟩) VC ?_
            rotate_left
            · go_simp
              all_goals with_reducible rfl
            simp only [Act.put, List.setIfInBounds_toArray, List.set_cons_zero, List.set_cons_succ]
            refine ord_done (by kernel_rfl) ?_ _
            go_wp2_with fail
            go_meet
            case rel => exact ⟨rfl, VC⟩
          · go_simp
          · simp only [Act.put, List.setIfInBounds_toArray, List.set_cons_zero, List.set_cons_succ]
            obtain ⟨gz, hgz⟩ : ∃ gz, xa.heap.size = gz := ⟨_, rfl⟩
            have BZ0 : Blk (xa.alloc (.cells #[.bool false, .int .u64 0, .int .u64 0, .int .i64 0] 27)) gz 27 #[.bool false, .int .u64 0, .int .u64 0, .int .i64 0] := by rw [← hgz]; exact Blk.new _ _ _
            have HNE := HB.ne_new VA (g := gz) (by omega)
            have HGZ : w.heap.size ≤ gz := by have := VA.1.size; omega
            have VA2 := VA.alloc (.cells #[.bool false, .int .u64 0, .int .u64 0, .int .i64 0] 27)
            rw [hgz]
            clear hgz
            refine ord_call (f := 6) (args := #[.agg #[.bool false, .int .u64 5076944270305263615, .int .u64 54210108624, .int .i64 0], .agg #[.bool false, .int .u64 1, .int .u64 0, .int .i64 9], .int .i64 0, .int .i64 0]) (w1 := xa.alloc (.cells #[.bool false, .int .u64 0, .int .u64 0, .int .i64 0] 27)) (i := 2) (fuel := 5) (by simp; rfl) (by kernel_rfl) (by rfl) ?_ ?_
            · go_simp
              all_goals with_reducible rfl
            refine (div_k (V := .tuple #[.agg #[.bool false, .int .u64 0, .int .u64 0, .int .i64 0], .int .i64 3]) (u64_k (by decide)) (u64_k (by decide)) (u64_k (by decide)) (u64_k (by decide)) (by kernel_rfl)).mono ?_
            rintro e xb ⟨_, rfl, rfl, hb⟩
            have VB := VA2.below hb
            have BZ := BZ0.below hb BZ0.lt
            clear hb BZ0
            refine ⟨_, rfl, VB, ?_⟩
            simp only [Act.put, List.setIfInBounds_toArray, List.set_cons_zero, List.set_cons_succ]
            obtain ⟨lz, ⟨z0, z1, z2, z3⟩, y0, y1, y2, y3⟩ := blk_c4 BZ
            have VS := HB.sub (bs' := [(x35.heap.size, 27, #[.bool false, .int .u64 5076944270305263615, .int .u64 54210108624, .int .i64 0]), (x29.heap.size, 27, #[.bool true, .int .u64 25, .int .u64 0, .int .i64 2]), (x25.heap.size, 27, #[.bool false, .int .u64 200, .int .u64 0, .int .i64 0]), (x21.heap.size, 27, #[.bool false, .int .u64 1, .int .u64 0, .int .i64 9]), (x7.heap.size, 27, #[.bool true, .int .u64 667, .int .u64 0, .int .i64 1]), (x3.heap.size, 27, #[.bool false, .int .u64 333333333, .int .u64 0, .int .i64 9])]) (HB.set4 (a' := .bool false) (b' := .int .u64 0) (c' := .int .u64 0) (d' := .int .i64 0) VB BZ HGZ HNE) (by simp)
            refine ord_take (v := ?_) (i := 3) (fuel := 4) (by simp; rfl) (by kernel_rfl) (by kernel_rfl) (by kernel_rfl) (Or.inl ⟨by rfl, fun w' hSw => ?_⟩) VB ?_
            rotate_left
            · go_simp
              all_goals with_reducible rfl
            simp only [Act.put, List.setIfInBounds_toArray, List.set_cons_zero, List.set_cons_succ]
            refine ord_take (v := ?_) (i := 4) (fuel := 3) (by simp; rfl) (by kernel_rfl) (by kernel_rfl) (by kernel_rfl) (Or.inl ⟨by rfl, fun w' hSw => ?_⟩) VB ?_
            rotate_left
            · go_simp
              all_goals with_reducible rfl
            simp only [Act.put, List.setIfInBounds_toArray, List.set_cons_zero, List.set_cons_succ]
            refine ord_take (v := ?_) (i := 5) (fuel := 2) (by simp; rfl) (by kernel_rfl) (by kernel_rfl) (by kernel_rfl) (Or.inl ⟨by rfl, fun w' hSw => ?_⟩) VB ?_
            rotate_left
            · go_simp
              all_goals with_reducible rfl
            simp only [Act.put, List.setIfInBounds_toArray, List.set_cons_zero, List.set_cons_succ]
            refine ord_skip (w' := ((((xb.setCell ⟨gz, 0, none⟩ (.bool false)).setCell ⟨gz, 1, none⟩ (.int .u64 0)).setCell ⟨gz, 2, none⟩ (.int .u64 0)).setCell ⟨gz, 3, none⟩ (.int .i64 0))) (i := 7) (fuel := 1) (by simp; rfl) (by kernel_rfl) (by rfl) rfl ?_ VS ?_
            · go_simp
            clear lz z0 z1 z2 z3 y0 y1 y2 y3
            refine ord_take (v := ?_) (i := 8) (fuel := 0) (by simp; rfl) (by kernel_rfl) (by kernel_rfl) (by kernel_rfl) (Or.inl ⟨by rfl, fun w' hSw => ?_⟩) VS ?_
            rotate_left
            · go_simp
              all_goals with_reducible rfl
            simp only [Act.put, List.setIfInBounds_toArray, List.set_cons_zero, List.set_cons_succ]
            refine ord_done (by kernel_rfl) ?_ _
            go_wp2_with fail
            go_meet
            case rel => exact ⟨rfl, VS⟩
        · go_simp
        · simp only [Act.put, List.setIfInBounds_toArray, List.set_cons_zero, List.set_cons_succ]
          obtain ⟨gz, hgz⟩ : ∃ gz, (x37.alloc (.cells #[.bool false, .int .u64 0, .int .u64 0, .int .i64 0] 27)).drew.heap.size = gz := ⟨_, rfl⟩
          have BZ0 : Blk ((x37.alloc (.cells #[.bool false, .int .u64 0, .int .u64 0, .int .i64 0] 27)).drew.alloc (.cells #[.bool false, .int .u64 0, .int .u64 0, .int .i64 0] 27)) gz 27 #[.bool false, .int .u64 0, .int .u64 0, .int .i64 0] := by rw [← hgz]; exact Blk.new _ _ _
          have HNE := HB.ne_new VD (g := gz) (by omega)
          have HGZ : w.heap.size ≤ gz := by have := VD.1.size; omega
          have VA2 := VD.alloc (.cells #[.bool false, .int .u64 0, .int .u64 0, .int .i64 0] 27)
          rw [hgz]
          clear hgz
          refine ord_call (f := 5) (args := #[.int .i64 1, .int .i64 9]) (w1 := (x37.alloc (.cells #[.bool false, .int .u64 0, .int .u64 0, .int .i64 0] 27)).drew.alloc (.cells #[.bool false, .int .u64 0, .int .u64 0, .int .i64 0] 27)) (i := 1) (fuel := 6) (by simp; rfl) (by kernel_rfl) (by rfl) ?_ ?_
          · go_simp
            all_goals with_reducible rfl
          refine (dOf_v 1 9 false 1 0 _ (by decide) (by decide) (by decide) (by decide) (decIs_n (by decide) (by decide) (by decide))).mono ?_
          rintro e xa ⟨_, rfl, rfl, hb⟩
          have VA := VA2.below hb
          have BZ1 := BZ0.below hb BZ0.lt
          clear hb BZ0
          refine ⟨_, rfl, VA, ?_⟩
          simp only [Act.put, List.setIfInBounds_toArray, List.set_cons_zero, List.set_cons_succ]
          refine ord_call (f := 6) (args := #[.agg #[.bool false, .int .u64 5076944270305263615, .int .u64 54210108624, .int .i64 0], .agg #[.bool false, .int .u64 1, .int .u64 0, .int .i64 9], .int .i64 0, .int .i64 0]) (w1 := xa) (i := 2) (fuel := 5) (by simp; rfl) (by kernel_rfl) (by rfl) ?_ ?_
          · go_simp
            all_goals with_reducible rfl
          refine (div_k (V := .tuple #[.agg #[.bool false, .int .u64 0, .int .u64 0, .int .i64 0], .int .i64 3]) (u64_k (by decide)) (u64_k (by decide)) (u64_k (by decide)) (u64_k (by decide)) (by kernel_rfl)).mono ?_
          rintro e xb ⟨_, rfl, rfl, hb⟩
          have VB := VA.below hb
          have BZ := BZ1.below hb BZ1.lt
          clear hb BZ1
          refine ⟨_, rfl, VB, ?_⟩
          simp only [Act.put, List.setIfInBounds_toArray, List.set_cons_zero, List.set_cons_succ]
          obtain ⟨lz, ⟨z0, z1, z2, z3⟩, y0, y1, y2, y3⟩ := blk_c4 BZ
          have VS := HB.sub (bs' := [(x35.heap.size, 27, #[.bool false, .int .u64 5076944270305263615, .int .u64 54210108624, .int .i64 0]), (x29.heap.size, 27, #[.bool true, .int .u64 25, .int .u64 0, .int .i64 2]), (x25.heap.size, 27, #[.bool false, .int .u64 200, .int .u64 0, .int .i64 0]), (x21.heap.size, 27, #[.bool false, .int .u64 1, .int .u64 0, .int .i64 9]), (x7.heap.size, 27, #[.bool true, .int .u64 667, .int .u64 0, .int .i64 1]), (x3.heap.size, 27, #[.bool false, .int .u64 333333333, .int .u64 0, .int .i64 9])]) (HB.set4 (a' := .bool false) (b' := .int .u64 0) (c' := .int .u64 0) (d' := .int .i64 0) VB BZ HGZ HNE) (by simp)
          refine ord_take (v := ?_) (i := 3) (fuel := 4) (by simp; rfl) (by kernel_rfl) (by kernel_rfl) (by kernel_rfl) (Or.inl ⟨by rfl, fun w' hSw => ?_⟩) VB ?_
          rotate_left
          · go_simp
            all_goals with_reducible rfl
          simp only [Act.put, List.setIfInBounds_toArray, List.set_cons_zero, List.set_cons_succ]
          refine ord_take (v := ?_) (i := 4) (fuel := 3) (by simp; rfl) (by kernel_rfl) (by kernel_rfl) (by kernel_rfl) (Or.inl ⟨by rfl, fun w' hSw => ?_⟩) VB ?_
          rotate_left
          · go_simp
            all_goals with_reducible rfl
          simp only [Act.put, List.setIfInBounds_toArray, List.set_cons_zero, List.set_cons_succ]
          refine ord_take (v := ?_) (i := 5) (fuel := 2) (by simp; rfl) (by kernel_rfl) (by kernel_rfl) (by kernel_rfl) (Or.inl ⟨by rfl, fun w' hSw => ?_⟩) VB ?_
          rotate_left
          · go_simp
            all_goals with_reducible rfl
          simp only [Act.put, List.setIfInBounds_toArray, List.set_cons_zero, List.set_cons_succ]
          refine ord_skip (w' := ((((xb.setCell ⟨gz, 0, none⟩ (.bool false)).setCell ⟨gz, 1, none⟩ (.int .u64 0)).setCell ⟨gz, 2, none⟩ (.int .u64 0)).setCell ⟨gz, 3, none⟩ (.int .i64 0))) (i := 7) (fuel := 1) (by simp; rfl) (by kernel_rfl) (by rfl) rfl ?_ VS ?_
          · go_simp
          clear lz z0 z1 z2 z3 y0 y1 y2 y3
          refine ord_take (v := ?_) (i := 8) (fuel := 0) (by simp; rfl) (by kernel_rfl) (by kernel_rfl) (by kernel_rfl) (Or.inl ⟨by rfl, fun w' hSw => ?_⟩) VS ?_
          rotate_left
          · go_simp
            all_goals with_reducible rfl
          simp only [Act.put, List.setIfInBounds_toArray, List.set_cons_zero, List.set_cons_succ]
          refine ord_done (by kernel_rfl) ?_ _
          go_wp2_with fail
          go_meet
          case rel => exact ⟨rfl, VS⟩
      case rest => as_aux_lemma =>
        obtain ⟨rfl, hV⟩ := hcut
        have V39 := hV
        clear hV V38
        go_wp2_with fail
        (with_reducible refine (dOf_v (-4) 1 true 4 0 _ (by decide) (by decide) (by decide) (by decide) (decIs_n (by decide) (by decide) (by decide))).mono ?_)
        rintro e x40 ⟨_, rfl, rfl, hb⟩
        have V40 := V39.below hb
        clear hb V39
        go_wp2_with fail
        (with_reducible refine (quant_k (V := .tuple #[.agg #[.bool false, .int .u64 0, .int .u64 0, .int .i64 0], .int .i64 0]) (u64_k (by decide)) (u64_k (by decide)) (by kernel_rfl)).mono ?_)
        rintro e x41 ⟨_, rfl, rfl, hb⟩
        have V41 := V40.below hb
        clear hb V40
        have V42 := V41.push #[.bool false, .int .u64 0, .int .u64 0, .int .i64 0] 27
        clear V41
        go_upto_region 25 with fail
        have hw1 := eqW2_yes (a := 200) (b := 0) (c := 200) (d := 0) ⟨rfl, rfl⟩
        have hw2 := eqW2_yes (a := 25) (b := 0) (c := 25) (d := 0) ⟨rfl, rfl⟩
        have hw3 := eqW2_yes (a := 0) (b := 0) (c := 0) (d := 0) ⟨rfl, rfl⟩
        have hd1 : eqDec false 200 0 0 false 200 0 0 = true := eqDec_iff.2 ⟨rfl, rfl, rfl, rfl⟩
        have hd2 : eqDec true 25 0 2 true 25 0 2 = true := eqDec_iff.2 ⟨rfl, rfl, rfl, rfl⟩
        have hd3 : eqDec false 0 0 0 false 0 0 0 = true := eqDec_iff.2 ⟨rfl, rfl, rfl, rfl⟩
        as_aux_lemma =>
        refine wp_region_det (S := fun w' => HB w [(x41.heap.size, 27, #[.bool false, .int .u64 0, .int .u64 0, .int .i64 0]), (x35.heap.size, 27, #[.bool false, .int .u64 5076944270305263615, .int .u64 54210108624, .int .i64 0]), (x29.heap.size, 27, #[.bool true, .int .u64 25, .int .u64 0, .int .i64 2]), (x25.heap.size, 27, #[.bool false, .int .u64 200, .int .u64 0, .int .i64 0]), (x21.heap.size, 27, #[.bool false, .int .u64 1, .int .u64 0, .int .i64 9]), (x7.heap.size, 27, #[.bool true, .int .u64 667, .int .u64 0, .int .i64 1]), (x3.heap.size, 27, #[.bool false, .int .u64 333333333, .int .u64 0, .int .i64 9])] w') (by kernel_rfl) (HB.drew V42) ?_
        refine det_take (v := ?_) (i := 0) (fuel := 79) (by simp; rfl) (by kernel_rfl) (by kernel_rfl) (by kernel_rfl) (Or.inl ⟨by rfl, fun w' hS => Or.inr ⟨10, #[], w', ?_, ?_⟩⟩) ?_
        rotate_left
        · go_simp
          all_goals with_reducible rfl
        · exact (flat (qk_c w')).mono fun e w2 h => ⟨by rw [h.1], HB.below hS h.2⟩
        simp only [Act.put, List.setIfInBounds_toArray, List.set_cons_zero, List.set_cons_succ]
        refine det_take (v := ?_) (i := 1) (fuel := 78) (by simp; rfl) (by kernel_rfl) (by kernel_rfl) (by kernel_rfl) (Or.inl ⟨by rfl, fun w' hS => Or.inl ⟨w', ?_, hS⟩⟩) ?_
        rotate_left
        · go_simp
          all_goals with_reducible rfl
        simp only [Act.put, List.setIfInBounds_toArray, List.set_cons_zero, List.set_cons_succ]
        refine det_take (v := ?_) (i := 2) (fuel := 77) (by simp; rfl) (by kernel_rfl) (by kernel_rfl) (by kernel_rfl) (Or.inl ⟨by rfl, fun w' hS => Or.inl ⟨w', ?_, hS⟩⟩) ?_
        rotate_left
        · go_simp
          all_goals with_reducible rfl
        simp only [Act.put, List.setIfInBounds_toArray, List.set_cons_zero, List.set_cons_succ]
        refine det_take (v := ?_) (i := 3) (fuel := 76) (by simp; rfl) (by kernel_rfl) (by kernel_rfl) (by kernel_rfl) (Or.inl ⟨by rfl, fun w' hS => Or.inl ⟨w', ?_, hS⟩⟩) ?_
        rotate_left
        · go_simp
          all_goals with_reducible rfl
        simp only [Act.put, List.setIfInBounds_toArray, List.set_cons_zero, List.set_cons_succ]
        refine det_take (v := ?_) (i := 4) (fuel := 75) (by simp; rfl) (by kernel_rfl) (by kernel_rfl) (by kernel_rfl) (Or.inl ⟨by rfl, fun w' hS => Or.inl ⟨w', ?_, hS⟩⟩) ?_
        rotate_left
        · go_simp
          all_goals with_reducible rfl
        simp only [Act.put, List.setIfInBounds_toArray, List.set_cons_zero, List.set_cons_succ]
        refine det_take (v := ?_) (i := 5) (fuel := 74) (by simp; rfl) (by kernel_rfl) (by kernel_rfl) (by kernel_rfl) (Or.inl ⟨by rfl, fun w' hS => Or.inl ⟨w', ?_, hS⟩⟩) ?_
        rotate_left
        · go_simp
          all_goals with_reducible rfl
        simp only [Act.put, List.setIfInBounds_toArray, List.set_cons_zero, List.set_cons_succ]
        refine det_take (v := ?_) (i := 6) (fuel := 73) (by simp; rfl) (by kernel_rfl) (by kernel_rfl) (by kernel_rfl) (Or.inl ⟨by rfl, fun w' hS => Or.inl ⟨w', ?_, hS⟩⟩) ?_
        rotate_left
        · obtain ⟨-, c0, c1, c2, c3⟩ := HB.dec (t := 27) (g := x3.heap.size) (a := .bool false) (b := .int .u64 333333333) (c := .int .u64 0) (d := .int .i64 9) hS (by simp)
          go_simp
          all_goals with_reducible rfl
        simp only [Act.put, List.setIfInBounds_toArray, List.set_cons_zero, List.set_cons_succ]
        refine det_take (v := ?_) (i := 7) (fuel := 72) (by simp; rfl) (by kernel_rfl) (by kernel_rfl) (by kernel_rfl) (Or.inl ⟨by rfl, fun w' hS => Or.inr ⟨11, #[.agg #[.bool false, .int .u64 333333333, .int .u64 0, .int .i64 9]], w', ?_, ?_⟩⟩) ?_
        rotate_left
        · go_simp
          all_goals with_reducible rfl
        · exact (flat (print_k false 333333333 0 9 333333333 [48, 46, 51, 51, 51, 51, 51, 51, 51, 51, 51] w' (u64_k (by decide)) (u64_k (by decide)) (by decide) (by decide) (tabIs_below HT.out (HB.bel hS)) (by decide +kernel))).mono fun e w2 h => ⟨by rw [h.1], HB.below hS h.2⟩
        simp only [Act.put, List.setIfInBounds_toArray, List.set_cons_zero, List.set_cons_succ]
        refine det_take (v := ?_) (i := 8) (fuel := 71) (by simp; rfl) (by kernel_rfl) (by kernel_rfl) (by kernel_rfl) (Or.inl ⟨by rfl, fun w' hS => Or.inl ⟨w', ?_, hS⟩⟩) ?_
        rotate_left
        · go_simp
          all_goals with_reducible rfl
        simp only [Act.put, List.setIfInBounds_toArray, List.set_cons_zero, List.set_cons_succ]
        refine det_take (v := ?_) (i := 9) (fuel := 70) (by simp; rfl) (by kernel_rfl) (by kernel_rfl) (by kernel_rfl) (Or.inl ⟨by rfl, fun w' hS => Or.inl ⟨w', ?_, hS⟩⟩) ?_
        rotate_left
        · go_simp
          all_goals with_reducible rfl
        simp only [Act.put, List.setIfInBounds_toArray, List.set_cons_zero, List.set_cons_succ]
        refine det_take (v := ?_) (i := 10) (fuel := 69) (by simp; rfl) (by kernel_rfl) (by kernel_rfl) (by kernel_rfl) (Or.inl ⟨by rfl, fun w' hS => Or.inl ⟨w', ?_, hS⟩⟩) ?_
        rotate_left
        · go_simp
          all_goals with_reducible rfl
        simp only [Act.put, List.setIfInBounds_toArray, List.set_cons_zero, List.set_cons_succ]
        refine det_take (v := ?_) (i := 11) (fuel := 68) (by simp; rfl) (by kernel_rfl) (by kernel_rfl) (by kernel_rfl) (Or.inl ⟨by rfl, fun w' hS => Or.inl ⟨w', ?_, hS⟩⟩) ?_
        rotate_left
        · go_simp
          all_goals with_reducible rfl
        simp only [Act.put, List.setIfInBounds_toArray, List.set_cons_zero, List.set_cons_succ]
        refine det_take (v := ?_) (i := 12) (fuel := 67) (by simp; rfl) (by kernel_rfl) (by kernel_rfl) (by kernel_rfl) (Or.inl ⟨by rfl, fun w' hS => Or.inl ⟨w', ?_, hS⟩⟩) ?_
        rotate_left
        · go_simp
          all_goals with_reducible rfl
        simp only [Act.put, List.setIfInBounds_toArray, List.set_cons_zero, List.set_cons_succ]
        refine det_take (v := ?_) (i := 13) (fuel := 66) (by simp; rfl) (by kernel_rfl) (by kernel_rfl) (by kernel_rfl) (Or.inl ⟨by rfl, fun w' hS => Or.inl ⟨w', ?_, hS⟩⟩) ?_
        rotate_left
        · go_simp
          all_goals with_reducible rfl
        simp only [Act.put, List.setIfInBounds_toArray, List.set_cons_zero, List.set_cons_succ]
        refine det_take (v := ?_) (i := 14) (fuel := 65) (by simp; rfl) (by kernel_rfl) (by kernel_rfl) (by kernel_rfl) (Or.inl ⟨by rfl, fun w' hS => Or.inl ⟨w', ?_, hS⟩⟩) ?_
        rotate_left
        · go_simp
          all_goals with_reducible rfl
        simp only [Act.put, List.setIfInBounds_toArray, List.set_cons_zero, List.set_cons_succ]
        refine det_take (v := ?_) (i := 15) (fuel := 64) (by simp; rfl) (by kernel_rfl) (by kernel_rfl) (by kernel_rfl) (Or.inl ⟨by rfl, fun w' hS => Or.inl ⟨w', ?_, hS⟩⟩) ?_
        rotate_left
        · obtain ⟨-, c0, c1, c2, c3⟩ := HB.dec (t := 27) (g := x7.heap.size) (a := .bool true) (b := .int .u64 667) (c := .int .u64 0) (d := .int .i64 1) hS (by simp)
          go_simp
          all_goals with_reducible rfl
        simp only [Act.put, List.setIfInBounds_toArray, List.set_cons_zero, List.set_cons_succ]
        refine det_take (v := ?_) (i := 16) (fuel := 63) (by simp; rfl) (by kernel_rfl) (by kernel_rfl) (by kernel_rfl) (Or.inl ⟨by rfl, fun w' hS => Or.inr ⟨11, #[.agg #[.bool true, .int .u64 667, .int .u64 0, .int .i64 1]], w', ?_, ?_⟩⟩) ?_
        rotate_left
        · go_simp
          all_goals with_reducible rfl
        · exact (flat (print_k true 667 0 1 667 [45, 54, 54, 46, 55] w' (u64_k (by decide)) (u64_k (by decide)) (by decide) (by decide) (tabIs_below HT.out (HB.bel hS)) (by decide +kernel))).mono fun e w2 h => ⟨by rw [h.1], HB.below hS h.2⟩
        simp only [Act.put, List.setIfInBounds_toArray, List.set_cons_zero, List.set_cons_succ]
        refine det_take (v := ?_) (i := 17) (fuel := 62) (by simp; rfl) (by kernel_rfl) (by kernel_rfl) (by kernel_rfl) (Or.inl ⟨by rfl, fun w' hS => Or.inl ⟨w', ?_, hS⟩⟩) ?_
        rotate_left
        · go_simp
          all_goals with_reducible rfl
        simp only [Act.put, List.setIfInBounds_toArray, List.set_cons_zero, List.set_cons_succ]
        refine det_take (v := ?_) (i := 18) (fuel := 61) (by simp; rfl) (by kernel_rfl) (by kernel_rfl) (by kernel_rfl) (Or.inl ⟨by rfl, fun w' hS => Or.inl ⟨w', ?_, hS⟩⟩) ?_
        rotate_left
        · go_simp
          all_goals with_reducible rfl
        simp only [Act.put, List.setIfInBounds_toArray, List.set_cons_zero, List.set_cons_succ]
        refine det_take (v := ?_) (i := 19) (fuel := 60) (by simp; rfl) (by kernel_rfl) (by kernel_rfl) (by kernel_rfl) (Or.inl ⟨by rfl, fun w' hS => Or.inl ⟨w', ?_, hS⟩⟩) ?_
        rotate_left
        · go_simp
          all_goals with_reducible rfl
        simp only [Act.put, List.setIfInBounds_toArray, List.set_cons_zero, List.set_cons_succ]
        refine det_take (v := ?_) (i := 20) (fuel := 59) (by simp; rfl) (by kernel_rfl) (by kernel_rfl) (by kernel_rfl) (Or.inl ⟨by rfl, fun w' hS => Or.inl ⟨w', ?_, hS⟩⟩) ?_
        rotate_left
        · go_simp
          all_goals with_reducible rfl
        simp only [Act.put, List.setIfInBounds_toArray, List.set_cons_zero, List.set_cons_succ]
        refine det_take (v := ?_) (i := 21) (fuel := 58) (by simp; rfl) (by kernel_rfl) (by kernel_rfl) (by kernel_rfl) (Or.inl ⟨by rfl, fun w' hS => Or.inl ⟨w', ?_, hS⟩⟩) ?_
        rotate_left
        · go_simp
          all_goals with_reducible rfl
        simp only [Act.put, List.setIfInBounds_toArray, List.set_cons_zero, List.set_cons_succ]
        refine det_take (v := ?_) (i := 22) (fuel := 57) (by simp; rfl) (by kernel_rfl) (by kernel_rfl) (by kernel_rfl) (Or.inl ⟨by rfl, fun w' hS => Or.inl ⟨w', ?_, hS⟩⟩) ?_
        rotate_left
        · go_simp
          all_goals with_reducible rfl
        simp only [Act.put, List.setIfInBounds_toArray, List.set_cons_zero, List.set_cons_succ]
        refine det_take (v := ?_) (i := 23) (fuel := 56) (by simp; rfl) (by kernel_rfl) (by kernel_rfl) (by kernel_rfl) (Or.inl ⟨by rfl, fun w' hS => Or.inl ⟨w', ?_, hS⟩⟩) ?_
        rotate_left
        · go_simp
          all_goals with_reducible rfl
        simp only [Act.put, List.setIfInBounds_toArray, List.set_cons_zero, List.set_cons_succ]
        refine det_take (v := ?_) (i := 24) (fuel := 55) (by simp; rfl) (by kernel_rfl) (by kernel_rfl) (by kernel_rfl) (Or.inl ⟨by rfl, fun w' hS => Or.inl ⟨w', ?_, hS⟩⟩) ?_
        rotate_left
        · go_simp
          all_goals with_reducible rfl
        simp only [Act.put, List.setIfInBounds_toArray, List.set_cons_zero, List.set_cons_succ]
        refine det_take (v := ?_) (i := 25) (fuel := 54) (by simp; rfl) (by kernel_rfl) (by kernel_rfl) (by kernel_rfl) (Or.inl ⟨by rfl, fun w' hS => Or.inl ⟨w', ?_, hS⟩⟩) ?_
        rotate_left
        · go_simp
          all_goals with_reducible rfl
        simp only [Act.put, List.setIfInBounds_toArray, List.set_cons_zero, List.set_cons_succ]
        refine det_take (v := ?_) (i := 26) (fuel := 53) (by simp; rfl) (by kernel_rfl) (by kernel_rfl) (by kernel_rfl) (Or.inl ⟨by rfl, fun w' hS => Or.inl ⟨w', ?_, hS⟩⟩) ?_
        rotate_left
        · go_simp
          all_goals with_reducible rfl
        simp only [Act.put, List.setIfInBounds_toArray, List.set_cons_zero, List.set_cons_succ]
        refine det_take (v := ?_) (i := 27) (fuel := 52) (by simp; rfl) (by kernel_rfl) (by kernel_rfl) (by kernel_rfl) (Or.inl ⟨by rfl, fun w' hS => Or.inl ⟨w', ?_, hS⟩⟩) ?_
        rotate_left
        · go_simp
          all_goals with_reducible rfl
        simp only [Act.put, List.setIfInBounds_toArray, List.set_cons_zero, List.set_cons_succ]
        refine det_take (v := ?_) (i := 28) (fuel := 51) (by simp; rfl) (by kernel_rfl) (by kernel_rfl) (by kernel_rfl) (Or.inl ⟨by rfl, fun w' hS => Or.inl ⟨w', ?_, hS⟩⟩) ?_
        rotate_left
        · go_simp
          all_goals with_reducible rfl
        simp only [Act.put, List.setIfInBounds_toArray, List.set_cons_zero, List.set_cons_succ]
        refine det_take (v := ?_) (i := 29) (fuel := 50) (by simp; rfl) (by kernel_rfl) (by kernel_rfl) (by kernel_rfl) (Or.inl ⟨by rfl, fun w' hS => Or.inl ⟨w', ?_, hS⟩⟩) ?_
        rotate_left
        · go_simp
          all_goals with_reducible rfl
        simp only [Act.put, List.setIfInBounds_toArray, List.set_cons_zero, List.set_cons_succ]
        refine det_take (v := ?_) (i := 30) (fuel := 49) (by simp; rfl) (by kernel_rfl) (by kernel_rfl) (by kernel_rfl) (Or.inl ⟨by rfl, fun w' hS => Or.inl ⟨w', ?_, hS⟩⟩) ?_
        rotate_left
        · go_simp
          all_goals with_reducible rfl
        simp only [Act.put, List.setIfInBounds_toArray, List.set_cons_zero, List.set_cons_succ]
        refine det_take (v := ?_) (i := 31) (fuel := 48) (by simp; rfl) (by kernel_rfl) (by kernel_rfl) (by kernel_rfl) (Or.inl ⟨by rfl, fun w' hS => Or.inl ⟨w', ?_, hS⟩⟩) ?_
        rotate_left
        · go_simp
          all_goals with_reducible rfl
        simp only [Act.put, List.setIfInBounds_toArray, List.set_cons_zero, List.set_cons_succ]
        refine det_take (v := ?_) (i := 32) (fuel := 47) (by simp; rfl) (by kernel_rfl) (by kernel_rfl) (by kernel_rfl) (Or.inl ⟨by rfl, fun w' hS => Or.inl ⟨w', ?_, hS⟩⟩) ?_
        rotate_left
        · go_simp
          all_goals with_reducible rfl
        simp only [Act.put, List.setIfInBounds_toArray, List.set_cons_zero, List.set_cons_succ]
        refine det_take (v := ?_) (i := 33) (fuel := 46) (by simp; rfl) (by kernel_rfl) (by kernel_rfl) (by kernel_rfl) (Or.inl ⟨by rfl, fun w' hS => Or.inl ⟨w', ?_, hS⟩⟩) ?_
        rotate_left
        · go_simp
          all_goals with_reducible rfl
        simp only [Act.put, List.setIfInBounds_toArray, List.set_cons_zero, List.set_cons_succ]
        refine det_take (v := ?_) (i := 34) (fuel := 45) (by simp; rfl) (by kernel_rfl) (by kernel_rfl) (by kernel_rfl) (Or.inl ⟨by rfl, fun w' hS => Or.inl ⟨w', ?_, hS⟩⟩) ?_
        rotate_left
        · go_simp
          all_goals with_reducible rfl
        simp only [Act.put, List.setIfInBounds_toArray, List.set_cons_zero, List.set_cons_succ]
        refine det_take (v := ?_) (i := 35) (fuel := 44) (by simp; rfl) (by kernel_rfl) (by kernel_rfl) (by kernel_rfl) (Or.inl ⟨by rfl, fun w' hS => Or.inl ⟨w', ?_, hS⟩⟩) ?_
        rotate_left
        · go_simp
          all_goals with_reducible rfl
        simp only [Act.put, List.setIfInBounds_toArray, List.set_cons_zero, List.set_cons_succ]
        refine det_take (v := ?_) (i := 36) (fuel := 43) (by simp; rfl) (by kernel_rfl) (by kernel_rfl) (by kernel_rfl) (Or.inl ⟨by rfl, fun w' hS => Or.inl ⟨w', ?_, hS⟩⟩) ?_
        rotate_left
        · obtain ⟨-, c0, c1, c2, c3⟩ := HB.dec (t := 27) (g := x21.heap.size) (a := .bool false) (b := .int .u64 1) (c := .int .u64 0) (d := .int .i64 9) hS (by simp)
          go_simp
          all_goals with_reducible rfl
        simp only [Act.put, List.setIfInBounds_toArray, List.set_cons_zero, List.set_cons_succ]
        refine det_take (v := ?_) (i := 37) (fuel := 42) (by simp; rfl) (by kernel_rfl) (by kernel_rfl) (by kernel_rfl) (Or.inl ⟨by rfl, fun w' hS => Or.inr ⟨11, #[.agg #[.bool false, .int .u64 1, .int .u64 0, .int .i64 9]], w', ?_, ?_⟩⟩) ?_
        rotate_left
        · go_simp
          all_goals with_reducible rfl
        · exact (flat (print_k false 1 0 9 1 [48, 46, 48, 48, 48, 48, 48, 48, 48, 48, 49] w' (u64_k (by decide)) (u64_k (by decide)) (by decide) (by decide) (tabIs_below HT.out (HB.bel hS)) (by decide +kernel))).mono fun e w2 h => ⟨by rw [h.1], HB.below hS h.2⟩
        simp only [Act.put, List.setIfInBounds_toArray, List.set_cons_zero, List.set_cons_succ]
        refine det_take (v := ?_) (i := 38) (fuel := 41) (by simp; rfl) (by kernel_rfl) (by kernel_rfl) (by kernel_rfl) (Or.inl ⟨by rfl, fun w' hS => Or.inl ⟨w', ?_, hS⟩⟩) ?_
        rotate_left
        · go_simp
          all_goals with_reducible rfl
        simp only [Act.put, List.setIfInBounds_toArray, List.set_cons_zero, List.set_cons_succ]
        refine det_take (v := ?_) (i := 39) (fuel := 40) (by simp; rfl) (by kernel_rfl) (by kernel_rfl) (by kernel_rfl) (Or.inl ⟨by rfl, fun w' hS => Or.inl ⟨w', ?_, hS⟩⟩) ?_
        rotate_left
        · go_simp
          all_goals with_reducible rfl
        simp only [Act.put, List.setIfInBounds_toArray, List.set_cons_zero, List.set_cons_succ]
        refine det_take (v := ?_) (i := 40) (fuel := 39) (by simp; rfl) (by kernel_rfl) (by kernel_rfl) (by kernel_rfl) (Or.inl ⟨by rfl, fun w' hS => Or.inl ⟨w', ?_, hS⟩⟩) ?_
        rotate_left
        · go_simp
          all_goals with_reducible rfl
        simp only [Act.put, List.setIfInBounds_toArray, List.set_cons_zero, List.set_cons_succ]
        refine det_take (v := ?_) (i := 41) (fuel := 38) (by simp; rfl) (by kernel_rfl) (by kernel_rfl) (by kernel_rfl) (Or.inl ⟨by rfl, fun w' hS => Or.inl ⟨w', ?_, hS⟩⟩) ?_
        rotate_left
        · go_simp
          all_goals with_reducible rfl
        simp only [Act.put, List.setIfInBounds_toArray, List.set_cons_zero, List.set_cons_succ]
        refine det_take (v := ?_) (i := 42) (fuel := 37) (by simp; rfl) (by kernel_rfl) (by kernel_rfl) (by kernel_rfl) (Or.inl ⟨by rfl, fun w' hS => Or.inl ⟨w', ?_, hS⟩⟩) ?_
        rotate_left
        · go_simp
          all_goals with_reducible rfl
        simp only [Act.put, List.setIfInBounds_toArray, List.set_cons_zero, List.set_cons_succ]
        refine det_take (v := ?_) (i := 43) (fuel := 36) (by simp; rfl) (by kernel_rfl) (by kernel_rfl) (by kernel_rfl) (Or.inl ⟨by rfl, fun w' hS => Or.inl ⟨w', ?_, hS⟩⟩) ?_
        rotate_left
        · go_simp
          all_goals with_reducible rfl
        simp only [Act.put, List.setIfInBounds_toArray, List.set_cons_zero, List.set_cons_succ]
        refine det_take (v := ?_) (i := 44) (fuel := 35) (by simp; rfl) (by kernel_rfl) (by kernel_rfl) (by kernel_rfl) (Or.inl ⟨by rfl, fun w' hS => Or.inl ⟨w', ?_, hS⟩⟩) ?_
        rotate_left
        · go_simp
          all_goals with_reducible rfl
        simp only [Act.put, List.setIfInBounds_toArray, List.set_cons_zero, List.set_cons_succ]
        refine det_take (v := ?_) (i := 45) (fuel := 34) (by simp; rfl) (by kernel_rfl) (by kernel_rfl) (by kernel_rfl) (Or.inl ⟨by rfl, fun w' hS => Or.inl ⟨w', ?_, hS⟩⟩) ?_
        rotate_left
        · obtain ⟨-, c0, c1, c2, c3⟩ := HB.dec (t := 27) (g := x25.heap.size) (a := .bool false) (b := .int .u64 200) (c := .int .u64 0) (d := .int .i64 0) hS (by simp)
          go_simp
          all_goals with_reducible rfl
        simp only [Act.put, List.setIfInBounds_toArray, List.set_cons_zero, List.set_cons_succ]
        refine det_take (v := ?_) (i := 46) (fuel := 33) (by simp; rfl) (by kernel_rfl) (by kernel_rfl) (by kernel_rfl) (Or.inl ⟨by rfl, fun w' hS => Or.inr ⟨5, #[.int .i64 200, .int .i64 0], w', ?_, ?_⟩⟩) ?_
        rotate_left
        · go_simp
          all_goals with_reducible rfl
        · exact (flat (dOf_v 200 0 false 200 0 w' (by decide) (by decide) (by decide) (by decide) (decIs_n (by decide) (by decide) (by decide)))).mono fun e w2 h => ⟨by rw [h.1], HB.below hS h.2⟩
        simp only [Act.put, List.setIfInBounds_toArray, List.set_cons_zero, List.set_cons_succ]
        refine det_take (v := ?_) (i := 47) (fuel := 32) (by simp; rfl) (by kernel_rfl) (by kernel_rfl) (by kernel_rfl) (Or.inl ⟨by rfl, fun w' hS => Or.inl ⟨w', ?_, hS⟩⟩) ?_
        rotate_left
        · go_simp
          all_goals with_reducible rfl
        simp only [Act.put, List.setIfInBounds_toArray, List.set_cons_zero, List.set_cons_succ]
        refine det_take (v := ?_) (i := 48) (fuel := 31) (by simp; rfl) (by kernel_rfl) (by kernel_rfl) (by kernel_rfl) (Or.inl ⟨by rfl, fun w' hS => Or.inl ⟨w', ?_, hS⟩⟩) ?_
        rotate_left
        · go_simp
          all_goals with_reducible rfl
        simp only [Act.put, List.setIfInBounds_toArray, List.set_cons_zero, List.set_cons_succ]
        refine det_take (v := ?_) (i := 49) (fuel := 30) (by simp; rfl) (by kernel_rfl) (by kernel_rfl) (by kernel_rfl) (Or.inl ⟨by rfl, fun w' hS => Or.inl ⟨w', ?_, hS⟩⟩) ?_
        rotate_left
        · go_simp
          all_goals with_reducible rfl
        simp only [Act.put, List.setIfInBounds_toArray, List.set_cons_zero, List.set_cons_succ]
        refine det_take (v := ?_) (i := 50) (fuel := 29) (by simp; rfl) (by kernel_rfl) (by kernel_rfl) (by kernel_rfl) (Or.inl ⟨by rfl, fun w' hS => Or.inl ⟨w', ?_, hS⟩⟩) ?_
        rotate_left
        · go_simp
          all_goals with_reducible rfl
        simp only [Act.put, List.setIfInBounds_toArray, List.set_cons_zero, List.set_cons_succ]
        refine det_take (v := ?_) (i := 51) (fuel := 28) (by simp; rfl) (by kernel_rfl) (by kernel_rfl) (by kernel_rfl) (Or.inl ⟨by rfl, fun w' hS => Or.inl ⟨w', ?_, hS⟩⟩) ?_
        rotate_left
        · go_simp
          all_goals with_reducible rfl
        simp only [Act.put, List.setIfInBounds_toArray, List.set_cons_zero, List.set_cons_succ]
        refine det_take (v := ?_) (i := 52) (fuel := 27) (by simp; rfl) (by kernel_rfl) (by kernel_rfl) (by kernel_rfl) (Or.inl ⟨by rfl, fun w' hS => Or.inl ⟨w', ?_, hS⟩⟩) ?_
        rotate_left
        · go_simp
          all_goals with_reducible rfl
        simp only [Act.put, List.setIfInBounds_toArray, List.set_cons_zero, List.set_cons_succ]
        refine det_take (v := ?_) (i := 53) (fuel := 26) (by simp; rfl) (by kernel_rfl) (by kernel_rfl) (by kernel_rfl) (Or.inl ⟨by rfl, fun w' hS => Or.inl ⟨w', ?_, hS⟩⟩) ?_
        rotate_left
        · go_simp
          all_goals with_reducible rfl
        simp only [Act.put, List.setIfInBounds_toArray, List.set_cons_zero, List.set_cons_succ]
        refine det_take (v := ?_) (i := 54) (fuel := 25) (by simp; rfl) (by kernel_rfl) (by kernel_rfl) (by kernel_rfl) (Or.inl ⟨by rfl, fun w' hS => Or.inl ⟨w', ?_, hS⟩⟩) ?_
        rotate_left
        · obtain ⟨-, c0, c1, c2, c3⟩ := HB.dec (t := 27) (g := x29.heap.size) (a := .bool true) (b := .int .u64 25) (c := .int .u64 0) (d := .int .i64 2) hS (by simp)
          go_simp
          all_goals with_reducible rfl
        simp only [Act.put, List.setIfInBounds_toArray, List.set_cons_zero, List.set_cons_succ]
        refine det_take (v := ?_) (i := 55) (fuel := 24) (by simp; rfl) (by kernel_rfl) (by kernel_rfl) (by kernel_rfl) (Or.inl ⟨by rfl, fun w' hS => Or.inr ⟨5, #[.int .i64 (-25), .int .i64 2], w', ?_, ?_⟩⟩) ?_
        rotate_left
        · go_simp
          all_goals with_reducible rfl
        · exact (flat (dOf_v (-25) 2 true 25 0 w' (by decide) (by decide) (by decide) (by decide) (decIs_n (by decide) (by decide) (by decide)))).mono fun e w2 h => ⟨by rw [h.1], HB.below hS h.2⟩
        simp only [Act.put, List.setIfInBounds_toArray, List.set_cons_zero, List.set_cons_succ]
        refine det_take (v := ?_) (i := 56) (fuel := 23) (by simp; rfl) (by kernel_rfl) (by kernel_rfl) (by kernel_rfl) (Or.inl ⟨by rfl, fun w' hS => Or.inl ⟨w', ?_, hS⟩⟩) ?_
        rotate_left
        · go_simp
          all_goals with_reducible rfl
        simp only [Act.put, List.setIfInBounds_toArray, List.set_cons_zero, List.set_cons_succ]
        refine det_take (v := ?_) (i := 57) (fuel := 22) (by simp; rfl) (by kernel_rfl) (by kernel_rfl) (by kernel_rfl) (Or.inl ⟨by rfl, fun w' hS => Or.inl ⟨w', ?_, hS⟩⟩) ?_
        rotate_left
        · go_simp
          all_goals with_reducible rfl
        simp only [Act.put, List.setIfInBounds_toArray, List.set_cons_zero, List.set_cons_succ]
        refine det_take (v := ?_) (i := 58) (fuel := 21) (by simp; rfl) (by kernel_rfl) (by kernel_rfl) (by kernel_rfl) (Or.inl ⟨by rfl, fun w' hS => Or.inl ⟨w', ?_, hS⟩⟩) ?_
        rotate_left
        · go_simp
          all_goals with_reducible rfl
        simp only [Act.put, List.setIfInBounds_toArray, List.set_cons_zero, List.set_cons_succ]
        refine det_take (v := ?_) (i := 59) (fuel := 20) (by simp; rfl) (by kernel_rfl) (by kernel_rfl) (by kernel_rfl) (Or.inl ⟨by rfl, fun w' hS => Or.inl ⟨w', ?_, hS⟩⟩) ?_
        rotate_left
        · go_simp
          all_goals with_reducible rfl
        simp only [Act.put, List.setIfInBounds_toArray, List.set_cons_zero, List.set_cons_succ]
        refine det_take (v := ?_) (i := 60) (fuel := 19) (by simp; rfl) (by kernel_rfl) (by kernel_rfl) (by kernel_rfl) (Or.inl ⟨by rfl, fun w' hS => Or.inl ⟨w', ?_, hS⟩⟩) ?_
        rotate_left
        · go_simp
          all_goals with_reducible rfl
        simp only [Act.put, List.setIfInBounds_toArray, List.set_cons_zero, List.set_cons_succ]
        refine det_take (v := ?_) (i := 61) (fuel := 18) (by simp; rfl) (by kernel_rfl) (by kernel_rfl) (by kernel_rfl) (Or.inl ⟨by rfl, fun w' hS => Or.inl ⟨w', ?_, hS⟩⟩) ?_
        rotate_left
        · go_simp
          all_goals with_reducible rfl
        simp only [Act.put, List.setIfInBounds_toArray, List.set_cons_zero, List.set_cons_succ]
        refine det_take (v := ?_) (i := 62) (fuel := 17) (by simp; rfl) (by kernel_rfl) (by kernel_rfl) (by kernel_rfl) (Or.inl ⟨by rfl, fun w' hS => Or.inl ⟨w', ?_, hS⟩⟩) ?_
        rotate_left
        · go_simp
          all_goals with_reducible rfl
        simp only [Act.put, List.setIfInBounds_toArray, List.set_cons_zero, List.set_cons_succ]
        refine det_take (v := ?_) (i := 63) (fuel := 16) (by simp; rfl) (by kernel_rfl) (by kernel_rfl) (by kernel_rfl) (Or.inl ⟨by rfl, fun w' hS => Or.inl ⟨w', ?_, hS⟩⟩) ?_
        rotate_left
        · go_simp
          all_goals with_reducible rfl
        simp only [Act.put, List.setIfInBounds_toArray, List.set_cons_zero, List.set_cons_succ]
        refine det_take (v := ?_) (i := 64) (fuel := 15) (by simp; rfl) (by kernel_rfl) (by kernel_rfl) (by kernel_rfl) (Or.inl ⟨by rfl, fun w' hS => Or.inl ⟨w', ?_, hS⟩⟩) ?_
        rotate_left
        · go_simp
          all_goals with_reducible rfl
        simp only [Act.put, List.setIfInBounds_toArray, List.set_cons_zero, List.set_cons_succ]
        refine det_take (v := ?_) (i := 65) (fuel := 14) (by simp; rfl) (by kernel_rfl) (by kernel_rfl) (by kernel_rfl) (Or.inl ⟨by rfl, fun w' hS => Or.inl ⟨w', ?_, hS⟩⟩) ?_
        rotate_left
        · go_simp
          all_goals with_reducible rfl
        simp only [Act.put, List.setIfInBounds_toArray, List.set_cons_zero, List.set_cons_succ]
        refine det_take (v := ?_) (i := 66) (fuel := 13) (by simp; rfl) (by kernel_rfl) (by kernel_rfl) (by kernel_rfl) (Or.inl ⟨by rfl, fun w' hS => Or.inl ⟨w', ?_, hS⟩⟩) ?_
        rotate_left
        · go_simp
          all_goals with_reducible rfl
        simp only [Act.put, List.setIfInBounds_toArray, List.set_cons_zero, List.set_cons_succ]
        refine det_take (v := ?_) (i := 67) (fuel := 12) (by simp; rfl) (by kernel_rfl) (by kernel_rfl) (by kernel_rfl) (Or.inl ⟨by rfl, fun w' hS => Or.inl ⟨w', ?_, hS⟩⟩) ?_
        rotate_left
        · go_simp
          all_goals with_reducible rfl
        simp only [Act.put, List.setIfInBounds_toArray, List.set_cons_zero, List.set_cons_succ]
        refine det_take (v := ?_) (i := 68) (fuel := 11) (by simp; rfl) (by kernel_rfl) (by kernel_rfl) (by kernel_rfl) (Or.inl ⟨by rfl, fun w' hS => Or.inl ⟨w', ?_, hS⟩⟩) ?_
        rotate_left
        · go_simp
          all_goals with_reducible rfl
        simp only [Act.put, List.setIfInBounds_toArray, List.set_cons_zero, List.set_cons_succ]
        refine det_take (v := ?_) (i := 69) (fuel := 10) (by simp; rfl) (by kernel_rfl) (by kernel_rfl) (by kernel_rfl) (Or.inl ⟨by rfl, fun w' hS => Or.inl ⟨w', ?_, hS⟩⟩) ?_
        rotate_left
        · go_simp
          all_goals with_reducible rfl
        simp only [Act.put, List.setIfInBounds_toArray, List.set_cons_zero, List.set_cons_succ]
        refine det_take (v := ?_) (i := 70) (fuel := 9) (by simp; rfl) (by kernel_rfl) (by kernel_rfl) (by kernel_rfl) (Or.inl ⟨by rfl, fun w' hS => Or.inl ⟨w', ?_, hS⟩⟩) ?_
        rotate_left
        · go_simp
          all_goals with_reducible rfl
        simp only [Act.put, List.setIfInBounds_toArray, List.set_cons_zero, List.set_cons_succ]
        refine det_take (v := ?_) (i := 71) (fuel := 8) (by simp; rfl) (by kernel_rfl) (by kernel_rfl) (by kernel_rfl) (Or.inl ⟨by rfl, fun w' hS => Or.inl ⟨w', ?_, hS⟩⟩) ?_
        rotate_left
        · go_simp
          all_goals with_reducible rfl
        simp only [Act.put, List.setIfInBounds_toArray, List.set_cons_zero, List.set_cons_succ]
        refine det_take (v := ?_) (i := 72) (fuel := 7) (by simp; rfl) (by kernel_rfl) (by kernel_rfl) (by kernel_rfl) (Or.inl ⟨by rfl, fun w' hS => Or.inl ⟨w', ?_, hS⟩⟩) ?_
        rotate_left
        · go_simp
          all_goals with_reducible rfl
        simp only [Act.put, List.setIfInBounds_toArray, List.set_cons_zero, List.set_cons_succ]
        refine det_take (v := ?_) (i := 73) (fuel := 6) (by simp; rfl) (by kernel_rfl) (by kernel_rfl) (by kernel_rfl) (Or.inl ⟨by rfl, fun w' hS => Or.inl ⟨w', ?_, hS⟩⟩) ?_
        rotate_left
        · go_simp
          all_goals with_reducible rfl
        simp only [Act.put, List.setIfInBounds_toArray, List.set_cons_zero, List.set_cons_succ]
        refine det_take (v := ?_) (i := 74) (fuel := 5) (by simp; rfl) (by kernel_rfl) (by kernel_rfl) (by kernel_rfl) (Or.inl ⟨by rfl, fun w' hS => Or.inl ⟨w', ?_, hS⟩⟩) ?_
        rotate_left
        · go_simp
          all_goals with_reducible rfl
        simp only [Act.put, List.setIfInBounds_toArray, List.set_cons_zero, List.set_cons_succ]
        refine det_take (v := ?_) (i := 75) (fuel := 4) (by simp; rfl) (by kernel_rfl) (by kernel_rfl) (by kernel_rfl) (Or.inl ⟨by rfl, fun w' hS => Or.inl ⟨w', ?_, hS⟩⟩) ?_
        rotate_left
        · obtain ⟨-, c0, c1, c2, c3⟩ := HB.dec (t := 27) (g := x41.heap.size) (a := .bool false) (b := .int .u64 0) (c := .int .u64 0) (d := .int .i64 0) hS (by simp)
          go_simp
          all_goals with_reducible rfl
        simp only [Act.put, List.setIfInBounds_toArray, List.set_cons_zero, List.set_cons_succ]
        refine det_take (v := ?_) (i := 76) (fuel := 3) (by simp; rfl) (by kernel_rfl) (by kernel_rfl) (by kernel_rfl) (Or.inl ⟨by rfl, fun w' hS => Or.inr ⟨5, #[.int .i64 0, .int .i64 0], w', ?_, ?_⟩⟩) ?_
        rotate_left
        · go_simp
          all_goals with_reducible rfl
        · exact (flat (dOf_v 0 0 false 0 0 w' (by decide) (by decide) (by decide) (by decide) (decIs_n (by decide) (by decide) (by decide)))).mono fun e w2 h => ⟨by rw [h.1], HB.below hS h.2⟩
        simp only [Act.put, List.setIfInBounds_toArray, List.set_cons_zero, List.set_cons_succ]
        refine det_take (v := ?_) (i := 77) (fuel := 2) (by simp; rfl) (by kernel_rfl) (by kernel_rfl) (by kernel_rfl) (Or.inl ⟨by rfl, fun w' hS => Or.inl ⟨w', ?_, hS⟩⟩) ?_
        rotate_left
        · go_simp
          all_goals with_reducible rfl
        simp only [Act.put, List.setIfInBounds_toArray, List.set_cons_zero, List.set_cons_succ]
        refine det_take (v := ?_) (i := 78) (fuel := 1) (by simp; rfl) (by kernel_rfl) (by kernel_rfl) (by kernel_rfl) (Or.inl ⟨by rfl, fun w' hS => Or.inl ⟨w', ?_, hS⟩⟩) ?_
        rotate_left
        · go_simp
          all_goals with_reducible rfl
        simp only [Act.put, List.setIfInBounds_toArray, List.set_cons_zero, List.set_cons_succ]
        refine det_take (v := ?_) (i := 79) (fuel := 0) (by simp; rfl) (by kernel_rfl) (by kernel_rfl) (by kernel_rfl) (Or.inl ⟨by rfl, fun w' hS => Or.inl ⟨w', ?_, hS⟩⟩) ?_
        rotate_left
        · go_simp
          all_goals with_reducible rfl
        simp only [Act.put, List.setIfInBounds_toArray, List.set_cons_zero]
        refine det_done (by kernel_rfl) (fun V hV => ?_) _
        go_wp2
        go_ret
        exact ⟨_, rfl, rfl, HB.bel hV⟩
end Go.Proofs.YtkaflkofffgndaaDoor

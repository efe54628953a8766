/- PackTells' walk. -/
import Derived.Test.YtnefckiaojhcdaaPackU
namespace Go.Proofs.Ytnefckiaojhcdaa
open Go.RowKit
theorem append_run {P : Program} {o : Oper} {a : Act} {s x : Operand} {t u : TypeId} {v xv v' : Value} {w w' : World} (ho : o.op = .call { callee := .builtin .append, args := #[s, x], argTypes := #[t, u] }) (hs : a.eval s = v) (hx : a.eval x = xv)
    (hr : (Builtin.append_ #[t, u] o.type #[v, xv]).run P w = .ok v' w') : (execOp a.eval o).run P w = .ok (.value v') w' := by
  unfold execOp
  simp only [ho, resolve, invoke, builtin, Sem.run_bind, Sem.run_pure, Result.andThen_ok, List.map_toArray, List.map_cons, List.map_nil, hs, hx, hr]
theorem xor_u8 (a : Nat) (b : Int) : ∃ z : Int, bits .xor .u8 (a : Int) b = z ∧ 0 ≤ z ∧ z < 256 := by
  refine ⟨_, rfl, ?_⟩
  show 0 ≤ IntKind.u8.wrap _ ∧ IntKind.u8.wrap _ < 256
  rw [IntKind.wrap_u8]
  omega
theorem tmod_in (x : Int) (m : Int) (hm : 0 < m) : -m < x.tmod m ∧ x.tmod m < m := ⟨by have := Int.lt_tmod_of_pos x hm; omega, Int.tmod_lt_of_pos x hm⟩
set_option maxRecDepth 100000 in
set_option maxHeartbeats 12800000 in
theorem tells_walk (n small : Int) (A0 : Option Addr) (n0 c0 : Nat) (L : List UInt8) (t : List UInt8) (cut at' wth : Int) (w : World)
    (hn : -9223372036854775808 ≤ n ∧ n ≤ 9223372036854775807) (hl : Bs w w.heap.size A0 n0 c0 L) (hc0 : c0 ≤ 140737488351232) (ht : t.length ≤ 140737488351232) :
    Calls Try.prog 6 #[.int .i64 n, .int .i64 small, .slice A0 n0 c0, .string ⟨t.toArray⟩, .int .i64 cut, .int .i64 at', .int .u8 wth] w fun e w' => e = .returned (.bool true) ∧ Below w.heap.size w w' := by
  obtain ⟨i0, hi, hz0, hz1, hz2⟩ := info_parts Try.i8
  have hn0 : n0 ≤ 140737488351232 := by have := hl.room; omega
  obtain ⟨kf, hkf⟩ : ∃ k, min n0 12 = k := ⟨_, rfl⟩
  have hkf2 : kf ≤ 12 := by omega
  have HKF := Lib.hid hkf
  have HKL := Lib.hid (show (L.take 12).length = kf by rw [List.length_take, hl.len]; omega)
  have HL := Lib.hid hl
  have HN := Lib.hid hn
  obtain ⟨sm, hsm⟩ : ∃ z, small.tmod 1000 = z := ⟨_, rfl⟩
  have hsm2 := tmod_in small 1000 (by decide)
  rw [hsm] at hsm2
  obtain ⟨s3, hs3⟩ : ∃ z, small.tmod 3 = z := ⟨_, rfl⟩
  have hs32 := tmod_in small 3 (by decide)
  rw [hs3] at hs32
  obtain ⟨sm1, sm2⟩ := hsm2
  obtain ⟨s31, s32⟩ := hs32
  obtain ⟨qn, hqn⟩ : ∃ q, (enc (zig n)).length = q := ⟨_, rfl⟩
  obtain ⟨qs, hqs⟩ : ∃ q, (enc (zig sm)).length = q := ⟨_, rfl⟩
  have hqn1 : 1 ≤ qn := by rw [← hqn]; exact (enc_len _).1
  have hqn2 : qn ≤ 10 := by rw [← hqn]; exact (enc_len _).2
  have hqs2 : qs ≤ 10 := by rw [← hqs]; exact (enc_len _).2
  have HQN := Lib.hid hqn
  have HQS := Lib.hid hqs
  clear hl hn hkf hqn hqs
  go_enter Try.func6, Try.ntmps6
  go_wp2_with fail
  (with_reducible refine (few_c A0 n0 c0 L 12 12 kf _ HL.out rfl HKF.out (by omega)).mono ?_)
  rintro e w1 ⟨g1, c1, rfl, ho, hb⟩
  have HD1 := Lib.hid ho.bs
  have HB1 := Lib.hid hb
  clear ho hb
  go_wp2_with fail
  (with_reducible refine (int_c (some ⟨g1, 0, none⟩) kf c1 (L.take 12) n _ HN.out.1 HN.out.2 HD1.out (by omega)).mono ?_)
  rintro e w2 ⟨rfl, ho, hb⟩
  rw [HQN.out] at ho
  rw [HQN.out]
  have HX2 := Lib.hid ho.bs
  have HD2 := Lib.hid ((HD1.out.below hb).more hb.size)
  have HB2 := Lib.hid (bel_tr HB1.out hb)
  clear ho hb
  go_wp2_with fail
  (with_reducible refine (int_c (some ⟨g1, 0, none⟩) kf c1 (L.take 12) sm _ (by omega) (by omega) HD2.out (by omega)).mono ?_)
  rintro e w3 ⟨rfl, ho, hb⟩
  rw [HQS.out] at ho
  rw [HQS.out]
  have HY3 := Lib.hid ho.bs
  have HX3 := Lib.hid ((HX2.out.below hb).more hb.size)
  have HD3 := Lib.hid ((HD2.out.below hb).more hb.size)
  have HB3 := Lib.hid (bel_tr HB2.out hb)
  clear ho hb
  go_wp2_with fail
  (with_reducible refine (text_c (some ⟨g1, 0, none⟩) kf c1 (L.take 12) t _ HD3.out (by omega)).mono ?_)
  rintro e w4 ⟨g4, n4, c4, rfl, ho, hb⟩
  have HZ4 := Lib.hid ho.bs
  have HY4 := Lib.hid ((HY3.out.below hb).more hb.size)
  have HX4 := Lib.hid ((HX3.out.below hb).more hb.size)
  have HD4 := Lib.hid ((HD3.out.below hb).more hb.size)
  have HB4 := Lib.hid (bel_tr HB3.out hb)
  clear ho hb HD1 HX2 HD2 HB2 HY3 HX3 HD3 HB3
  go_upto_region 5 with fail
  go_cut [71] (fun s' wx => s' = .bool false ∧ Below w4.heap.size w4 wx)
  case first =>
    as_aux_lemma =>
    have HBd := Lib.hid (show Below w4.heap.size w4 w4.drew from (Below.refl _ _).drew)
    refine wp_region_ord (S := fun W => Below w4.heap.size w4 W) (by kernel_rfl) ?_
    refine ord_take (v := ?_) (i := 0) (fuel := 25) (by simp; rfl) (by kernel_rfl) (by kernel_rfl) (by kernel_rfl) (Or.inl ⟨by rfl, fun w' hSw => ?_⟩) HBd.out ?_
    rotate_left
    · go_simp
      all_goals with_reducible rfl
    simp only [Act.put, List.setIfInBounds_toArray, List.set_cons_zero, List.set_cons_succ]
    refine ord_take (v := ?_) (i := 2) (fuel := 24) (by simp; rfl) (by kernel_rfl) (by kernel_rfl) (by kernel_rfl) (Or.inl ⟨by rfl, fun w' hSw => ?_⟩) HBd.out ?_
    rotate_left
    · go_simp
      all_goals with_reducible rfl
    simp only [Act.put, List.setIfInBounds_toArray, List.set_cons_zero, List.set_cons_succ]
    refine ord_take (v := ?_) (i := 3) (fuel := 23) (by simp; rfl) (by kernel_rfl) (by kernel_rfl) (by kernel_rfl) (Or.inl ⟨by rfl, fun w' hSw => ?_⟩) HBd.out ?_
    rotate_left
    · go_simp
      all_goals with_reducible rfl
    simp only [Act.put, List.setIfInBounds_toArray, List.set_cons_zero, List.set_cons_succ]
    refine ord_take (v := ?_) (i := 1) (fuel := 22) (by simp; rfl) (by kernel_rfl) (by kernel_rfl) (by kernel_rfl) (Or.inl ⟨by rfl, fun w' hSw => ?_⟩) HBd.out ?_
    rotate_left
    · dsimp only at hSw
      have hq := str_run (HX4.out.below hSw)
      go_simp
      all_goals with_reducible rfl
    simp only [Act.put, List.setIfInBounds_toArray, List.set_cons_zero, List.set_cons_succ]
    refine ord_call (f := 33) (args := #[.slice (some ⟨g1, 0, none⟩) kf c1, .int .i64 n]) (w1 := w4.drew) (i := 4) (fuel := 21) (by simp; rfl) (by kernel_rfl) (by rfl) ?_ ?_
    · go_simp
      all_goals with_reducible rfl
    refine (refInt_c (some ⟨g1, 0, none⟩) kf c1 (L.take 12) n _ HN.out.1 HN.out.2 ((HD4.out.below HBd.out).more HBd.out.size) (by omega)).mono ?_
    rintro e w5 ⟨ga, ca, rfl, ho, hb⟩
    have hbb : Below w4.heap.size w4 w5 := HBd.out.trans (hb.mono HBd.out.size)
    have HBw5 := Lib.hid hbb
    have qa := str_run ho.bs
    clear ho hb hbb
    refine ⟨_, rfl, HBw5.out, ?_⟩
    simp only [Act.put, List.setIfInBounds_toArray, List.set_cons_zero, List.set_cons_succ]
    refine ord_only (v := ?_) (w' := w5) (i := 5) (fuel := 20) (by simp; rfl) (by kernel_rfl) (by rfl) ?_ HBw5.out ?_
    rotate_left
    · go_simp
      all_goals with_reducible rfl
    simp only [Act.put, List.setIfInBounds_toArray, List.set_cons_zero, List.set_cons_succ]
    refine ord_take (v := ?_) (i := 6) (fuel := 19) (by simp; rfl) (by kernel_rfl) (by kernel_rfl) (by kernel_rfl) (Or.inl ⟨by rfl, fun w' hSw => ?_⟩) HBw5.out ?_
    rotate_left
    · go_simp
      all_goals with_reducible rfl
    simp only [Act.put, List.setIfInBounds_toArray, List.set_cons_zero, List.set_cons_succ]
    refine ord_take (v := ?_) (i := 7) (fuel := 18) (by simp; rfl) (by kernel_rfl) (by kernel_rfl) (by kernel_rfl) (Or.inl ⟨by rfl, fun w' hSw => ?_⟩) HBw5.out ?_
    rotate_left
    · go_simp
      all_goals with_reducible rfl
    simp only [Act.put, List.setIfInBounds_toArray, List.set_cons_zero, List.set_cons_succ]
    refine ord_take (v := ?_) (i := 8) (fuel := 17) (by simp; rfl) (by kernel_rfl) (by kernel_rfl) (by kernel_rfl) (Or.inl ⟨by rfl, fun w' hSw => ?_⟩) HBw5.out ?_
    rotate_left
    · go_simp
      all_goals with_reducible rfl
    simp only [Act.put, List.setIfInBounds_toArray, List.set_cons_zero, List.set_cons_succ]
    refine ord_take (v := ?_) (i := 9) (fuel := 16) (by simp; rfl) (by kernel_rfl) (by kernel_rfl) (by kernel_rfl) (Or.inl ⟨by rfl, fun w' hSw => ?_⟩) HBw5.out ?_
    rotate_left
    · dsimp only at hSw
      have hq := str_run (HY4.out.below hSw)
      go_simp
      all_goals with_reducible rfl
    simp only [Act.put, List.setIfInBounds_toArray, List.set_cons_zero, List.set_cons_succ]
    refine ord_take (v := ?_) (i := 10) (fuel := 15) (by simp; rfl) (by kernel_rfl) (by kernel_rfl) (by kernel_rfl) (Or.inl ⟨by rfl, fun w' hSw => ?_⟩) HBw5.out ?_
    rotate_left
    · go_simp
      all_goals with_reducible rfl
    simp only [Act.put, List.setIfInBounds_toArray, List.set_cons_zero, List.set_cons_succ]
    refine ord_take (v := ?_) (i := 11) (fuel := 14) (by simp; rfl) (by kernel_rfl) (by kernel_rfl) (by kernel_rfl) (Or.inl ⟨by rfl, fun w' hSw => ?_⟩) HBw5.out ?_
    rotate_left
    · go_simp
      all_goals with_reducible rfl
    simp only [Act.put, List.setIfInBounds_toArray, List.set_cons_zero, List.set_cons_succ]
    refine ord_take (v := ?_) (i := 12) (fuel := 13) (by simp; rfl) (by kernel_rfl) (by kernel_rfl) (by kernel_rfl) (Or.inl ⟨by rfl, fun w' hSw => ?_⟩) HBw5.out ?_
    rotate_left
    · go_simp
      all_goals with_reducible rfl
    simp only [Act.put, List.setIfInBounds_toArray, List.set_cons_zero, List.set_cons_succ]
    refine ord_call (f := 33) (args := #[.slice (some ⟨g1, 0, none⟩) kf c1, .int .i64 sm]) (w1 := w5) (i := 13) (fuel := 12) (by simp; rfl) (by kernel_rfl) (by rfl) ?_ ?_
    · go_simp
      all_goals with_reducible rfl
    refine (refInt_c (some ⟨g1, 0, none⟩) kf c1 (L.take 12) sm _ (by omega) (by omega) ((HD4.out.below HBw5.out).more HBw5.out.size) (by omega)).mono ?_
    rintro e w6 ⟨gb, cb, rfl, ho, hb⟩
    have hbb : Below w4.heap.size w4 w6 := HBw5.out.trans (hb.mono HBw5.out.size)
    have HBw6 := Lib.hid hbb
    have qb := str_run ho.bs
    clear ho hb hbb
    refine ⟨_, rfl, HBw6.out, ?_⟩
    simp only [Act.put, List.setIfInBounds_toArray, List.set_cons_zero, List.set_cons_succ]
    refine ord_only (v := ?_) (w' := w6) (i := 14) (fuel := 11) (by simp; rfl) (by kernel_rfl) (by rfl) ?_ HBw6.out ?_
    rotate_left
    · go_simp
      all_goals with_reducible rfl
    simp only [Act.put, List.setIfInBounds_toArray, List.set_cons_zero, List.set_cons_succ]
    refine ord_take (v := ?_) (i := 15) (fuel := 10) (by simp; rfl) (by kernel_rfl) (by kernel_rfl) (by kernel_rfl) (Or.inl ⟨by rfl, fun w' hSw => ?_⟩) HBw6.out ?_
    rotate_left
    · go_simp
      all_goals with_reducible rfl
    simp only [Act.put, List.setIfInBounds_toArray, List.set_cons_zero, List.set_cons_succ]
    refine ord_take (v := ?_) (i := 16) (fuel := 9) (by simp; rfl) (by kernel_rfl) (by kernel_rfl) (by kernel_rfl) (Or.inl ⟨by rfl, fun w' hSw => ?_⟩) HBw6.out ?_
    rotate_left
    · go_simp
      all_goals with_reducible rfl
    simp only [Act.put, List.setIfInBounds_toArray, List.set_cons_zero, List.set_cons_succ]
    refine ord_take (v := ?_) (i := 17) (fuel := 8) (by simp; rfl) (by kernel_rfl) (by kernel_rfl) (by kernel_rfl) (Or.inl ⟨by rfl, fun w' hSw => ?_⟩) HBw6.out ?_
    rotate_left
    · go_simp
      all_goals with_reducible rfl
    simp only [Act.put, List.setIfInBounds_toArray, List.set_cons_zero, List.set_cons_succ]
    refine ord_take (v := ?_) (i := 18) (fuel := 7) (by simp; rfl) (by kernel_rfl) (by kernel_rfl) (by kernel_rfl) (Or.inl ⟨by rfl, fun w' hSw => ?_⟩) HBw6.out ?_
    rotate_left
    · go_simp
      all_goals with_reducible rfl
    simp only [Act.put, List.setIfInBounds_toArray, List.set_cons_zero, List.set_cons_succ]
    refine ord_take (v := ?_) (i := 19) (fuel := 6) (by simp; rfl) (by kernel_rfl) (by kernel_rfl) (by kernel_rfl) (Or.inl ⟨by rfl, fun w' hSw => ?_⟩) HBw6.out ?_
    rotate_left
    · dsimp only at hSw
      have hq := str_run (HZ4.out.below hSw)
      go_simp
      all_goals with_reducible rfl
    simp only [Act.put, List.setIfInBounds_toArray, List.set_cons_zero, List.set_cons_succ]
    refine ord_take (v := ?_) (i := 20) (fuel := 5) (by simp; rfl) (by kernel_rfl) (by kernel_rfl) (by kernel_rfl) (Or.inl ⟨by rfl, fun w' hSw => ?_⟩) HBw6.out ?_
    rotate_left
    · go_simp
      all_goals with_reducible rfl
    simp only [Act.put, List.setIfInBounds_toArray, List.set_cons_zero, List.set_cons_succ]
    refine ord_take (v := ?_) (i := 21) (fuel := 4) (by simp; rfl) (by kernel_rfl) (by kernel_rfl) (by kernel_rfl) (Or.inl ⟨by rfl, fun w' hSw => ?_⟩) HBw6.out ?_
    rotate_left
    · go_simp
      all_goals with_reducible rfl
    simp only [Act.put, List.setIfInBounds_toArray, List.set_cons_zero, List.set_cons_succ]
    refine ord_call (f := 34) (args := #[.slice (some ⟨g1, 0, none⟩) kf c1, .string ⟨t.toArray⟩]) (w1 := w6) (i := 22) (fuel := 3) (by simp; rfl) (by kernel_rfl) (by rfl) ?_ ?_
    · go_simp
      all_goals with_reducible rfl
    refine (refText_c (some ⟨g1, 0, none⟩) kf c1 (L.take 12) t _ ((HD4.out.below HBw6.out).more HBw6.out.size) (by omega)).mono ?_
    rintro e w7 ⟨nc, gc, cc, rfl, ho, hb⟩
    have hbb : Below w4.heap.size w4 w7 := HBw6.out.trans (hb.mono HBw6.out.size)
    have HBw7 := Lib.hid hbb
    have qc := str_run ho.bs
    clear ho hb hbb
    refine ⟨_, rfl, HBw7.out, ?_⟩
    simp only [Act.put, List.setIfInBounds_toArray, List.set_cons_zero, List.set_cons_succ]
    refine ord_only (v := ?_) (w' := w7) (i := 23) (fuel := 2) (by simp; rfl) (by kernel_rfl) (by rfl) ?_ HBw7.out ?_
    rotate_left
    · go_simp
      all_goals with_reducible rfl
    simp only [Act.put, List.setIfInBounds_toArray, List.set_cons_zero, List.set_cons_succ]
    refine ord_take (v := ?_) (i := 24) (fuel := 1) (by simp; rfl) (by kernel_rfl) (by kernel_rfl) (by kernel_rfl) (Or.inl ⟨by rfl, fun w' hSw => ?_⟩) HBw7.out ?_
    rotate_left
    · go_simp
      all_goals with_reducible rfl
    simp only [Act.put, List.setIfInBounds_toArray, List.set_cons_zero, List.set_cons_succ]
    refine ord_take (v := ?_) (i := 25) (fuel := 0) (by simp; rfl) (by kernel_rfl) (by kernel_rfl) (by kernel_rfl) (Or.inl ⟨by rfl, fun w' hSw => ?_⟩) HBw7.out ?_
    rotate_left
    · go_simp
      all_goals with_reducible rfl
    simp only [Act.put, List.setIfInBounds_toArray, List.set_cons_zero, List.set_cons_succ]
    refine ord_done (by kernel_rfl) ?_ _
    go_wp2_with fail
    go_meet
    case rel => exact ⟨rfl, HBw7.out⟩
  case rest =>
    as_aux_lemma =>
    obtain ⟨rfl, hb⟩ := hcut
    obtain ⟨wq, rfl⟩ : ∃ W : World, W = wc := ⟨_, rfl⟩
    have HXc := Lib.hid ((HX4.out.below hb).more hb.size)
    have HZc := Lib.hid ((HZ4.out.below hb).more hb.size)
    have HBc := Lib.hid (bel_tr HB4.out hb)
    have HLc := Lib.hid ((HL.out.below HBc.out).more HBc.out.size)
    clear hb HZ4 HY4 HX4 HD4 HB4
    have hts : (⟨t.toArray⟩ : ByteArray).size = t.length := rfl
    obtain ⟨sl, hsl⟩ : ∃ z, (t.length : Int) + s3 = z := ⟨_, rfl⟩
    have hslw : IntKind.i64.wrap ((t.length : Int) + s3) = sl := by rw [hsl]; exact IntWalk.i64_in _ (by omega)
    have hsl1 : -10 ≤ sl := by omega
    have hsl2 : sl ≤ 150000000000000 := by omega
    obtain ⟨ql, hql⟩ : ∃ q, (enc (zig sl)).length = q := ⟨_, rfl⟩
    have hql1 : 1 ≤ ql := by rw [← hql]; exact (enc_len _).1
    have hql2 : ql ≤ 10 := by rw [← hql]; exact (enc_len _).2
    have HQL := Lib.hid hql
    have hn4 : kf < n4 := by
      have h1 := HZc.out.len
      have h2 := (enc_len (zig (t.length : Int))).1
      rw [List.append_assoc, List.length_append, HKL.out, List.length_append] at h1
      omega
    have hn4b : n4 ≤ 140737488355328 := by
      have h1 := HZc.out.len
      have h2 := (enc_len (zig (t.length : Int))).2
      rw [List.append_assoc, List.length_append, HKL.out, List.length_append] at h1
      omega
    have hc4 : n4 ≤ c4 := HZc.out.room
    have HX7 := Lib.hid (show Bs wq wq.heap.size (some ⟨w1.heap.size, kf, none⟩) qn 10 ((L.take 12 ++ enc (zig n)).drop kf) by
      have := HXc.out.cut_no (k := kf) (by omega) (by omega)
      rw [Nat.add_sub_cancel_left, Nat.add_sub_cancel_left] at this
      simpa [Addr.add_lit] using this)
    have HZ7 := Lib.hid (show Bs wq wq.heap.size (some ⟨g4, kf, none⟩) (n4 - kf) (c4 - kf) ((L.take 12 ++ enc (zig t.length) ++ t).drop kf) by
      have := HZc.out.cut_no (k := kf) (by omega) (by omega)
      simpa [Addr.add_lit] using this)
    clear hql hsl HXc HZc
    go_upto_region 7 with fail
    go_cut [89, 90] (fun a' i' wx => ∃ (g9 n9 c9 : Nat) (l9 : List UInt8), a' = .agg #[.slice A0 n0 c0, .slice (some ⟨w1.heap.size, kf, none⟩) qn 10, .slice (some ⟨g4, kf, none⟩) (n4 - kf) (c4 - kf), .slice (some ⟨g9, 0, none⟩) n9 c9] ∧ i' = .int .i64 0 ∧ Bs wx wx.heap.size (some ⟨g9, 0, none⟩) n9 c9 l9 ∧ n9 ≤ 140737488355328 ∧ Below wq.heap.size wq wx)
    case first =>
      as_aux_lemma =>
      have j1 : (0 : Int) ≤ (kf : Int) := by omega
      have j2 : (kf : Int) ≤ ((kf + qn : Nat) : Int) := by omega
      have j3 : (kf : Int) ≤ (n4 : Int) := by omega
      have j4 : ¬ c4 = kf := by omega
      have j5 : (kf : Int) ≤ (kf : Int) + (qn : Int) := by omega
      have HBd := Lib.hid (show Below wq.heap.size wq wq.drew from (Below.refl _ _).drew)
      refine wp_region_ord (S := fun W => Below wq.heap.size wq W) (by kernel_rfl) ?_
      refine ord_take (v := ?_) (i := 0) (fuel := 18) (by simp; rfl) (by kernel_rfl) (by kernel_rfl) (by kernel_rfl) (Or.inl ⟨by rfl, fun w' hSw => ?_⟩) HBd.out ?_
      rotate_left
      · go_simp
        all_goals with_reducible rfl
      simp only [Act.put, List.setIfInBounds_toArray, List.set_cons_zero, List.set_cons_succ]
      refine ord_take (v := ?_) (i := 1) (fuel := 17) (by simp; rfl) (by kernel_rfl) (by kernel_rfl) (by kernel_rfl) (Or.inl ⟨by rfl, fun w' hSw => ?_⟩) HBd.out ?_
      rotate_left
      · go_simp
        all_goals with_reducible rfl
      simp only [Act.put, List.setIfInBounds_toArray, List.set_cons_zero, List.set_cons_succ]
      refine ord_take (v := ?_) (i := 2) (fuel := 16) (by simp; rfl) (by kernel_rfl) (by kernel_rfl) (by kernel_rfl) (Or.inl ⟨by rfl, fun w' hSw => ?_⟩) HBd.out ?_
      rotate_left
      · go_simp
        all_goals with_reducible rfl
      simp only [Act.put, List.setIfInBounds_toArray, List.set_cons_zero, List.set_cons_succ]
      refine ord_take (v := ?_) (i := 3) (fuel := 15) (by simp; rfl) (by kernel_rfl) (by kernel_rfl) (by kernel_rfl) (Or.inl ⟨by rfl, fun w' hSw => ?_⟩) HBd.out ?_
      rotate_left
      · go_simp
        all_goals with_reducible rfl
      simp only [Act.put, List.setIfInBounds_toArray, List.set_cons_zero, List.set_cons_succ]
      refine ord_take (v := ?_) (i := 4) (fuel := 14) (by simp; rfl) (by kernel_rfl) (by kernel_rfl) (by kernel_rfl) (Or.inl ⟨by rfl, fun w' hSw => ?_⟩) HBd.out ?_
      rotate_left
      · go_simp
        all_goals with_reducible rfl
      simp only [Act.put, List.setIfInBounds_toArray, List.set_cons_zero, List.set_cons_succ]
      refine ord_take (v := ?_) (i := 5) (fuel := 13) (by simp; rfl) (by kernel_rfl) (by kernel_rfl) (by kernel_rfl) (Or.inl ⟨by rfl, fun w' hSw => ?_⟩) HBd.out ?_
      rotate_left
      · go_simp
        all_goals with_reducible rfl
      simp only [Act.put, List.setIfInBounds_toArray, List.set_cons_zero, List.set_cons_succ]
      refine ord_take (v := ?_) (i := 6) (fuel := 12) (by simp; rfl) (by kernel_rfl) (by kernel_rfl) (by kernel_rfl) (Or.inl ⟨by rfl, fun w' hSw => ?_⟩) HBd.out ?_
      rotate_left
      · go_simp
        all_goals with_reducible rfl
      simp only [Act.put, List.setIfInBounds_toArray, List.set_cons_zero, List.set_cons_succ]
      refine ord_take (v := ?_) (i := 7) (fuel := 11) (by simp; rfl) (by kernel_rfl) (by kernel_rfl) (by kernel_rfl) (Or.inl ⟨by rfl, fun w' hSw => ?_⟩) HBd.out ?_
      rotate_left
      · go_simp
        all_goals with_reducible rfl
      simp only [Act.put, List.setIfInBounds_toArray, List.set_cons_zero, List.set_cons_succ]
      refine ord_take (v := ?_) (i := 8) (fuel := 10) (by simp; rfl) (by kernel_rfl) (by kernel_rfl) (by kernel_rfl) (Or.inl ⟨by rfl, fun w' hSw => ?_⟩) HBd.out ?_
      rotate_left
      · go_simp
        all_goals with_reducible rfl
      simp only [Act.put, List.setIfInBounds_toArray, List.set_cons_zero, List.set_cons_succ]
      refine ord_take (v := ?_) (i := 9) (fuel := 9) (by simp; rfl) (by kernel_rfl) (by kernel_rfl) (by kernel_rfl) (Or.inl ⟨by rfl, fun w' hSw => ?_⟩) HBd.out ?_
      rotate_left
      · go_simp
        all_goals with_reducible rfl
      simp only [Act.put, List.setIfInBounds_toArray, List.set_cons_zero, List.set_cons_succ]
      refine ord_take (v := ?_) (i := 10) (fuel := 8) (by simp; rfl) (by kernel_rfl) (by kernel_rfl) (by kernel_rfl) (Or.inl ⟨by rfl, fun w' hSw => ?_⟩) HBd.out ?_
      rotate_left
      · go_simp
        all_goals with_reducible rfl
      simp only [Act.put, List.setIfInBounds_toArray, List.set_cons_zero, List.set_cons_succ]
      refine ord_take (v := ?_) (i := 11) (fuel := 7) (by simp; rfl) (by kernel_rfl) (by kernel_rfl) (by kernel_rfl) (Or.inl ⟨by rfl, fun w' hSw => ?_⟩) HBd.out ?_
      rotate_left
      · go_simp
        all_goals with_reducible rfl
      simp only [Act.put, List.setIfInBounds_toArray, List.set_cons_zero, List.set_cons_succ]
      refine ord_take (v := ?_) (i := 12) (fuel := 6) (by simp; rfl) (by kernel_rfl) (by kernel_rfl) (by kernel_rfl) (Or.inl ⟨by rfl, fun w' hSw => ?_⟩) HBd.out ?_
      rotate_left
      · go_simp
        all_goals with_reducible rfl
      simp only [Act.put, List.setIfInBounds_toArray, List.set_cons_zero, List.set_cons_succ]
      refine ord_take (v := ?_) (i := 13) (fuel := 5) (by simp; rfl) (by kernel_rfl) (by kernel_rfl) (by kernel_rfl) (Or.inl ⟨by rfl, fun w' hSw => ?_⟩) HBd.out ?_
      rotate_left
      · go_simp
        all_goals with_reducible rfl
      simp only [Act.put, List.setIfInBounds_toArray, List.set_cons_zero, List.set_cons_succ]
      refine ord_take (v := ?_) (i := 15) (fuel := 4) (by simp; rfl) (by kernel_rfl) (by kernel_rfl) (by kernel_rfl) (Or.inl ⟨by rfl, fun w' hSw => ?_⟩) HBd.out ?_
      rotate_left
      · go_simp
        all_goals with_reducible rfl
      simp only [Act.put, List.setIfInBounds_toArray, List.set_cons_zero, List.set_cons_succ]
      refine ord_take (v := ?_) (i := 18) (fuel := 3) (by simp; rfl) (by kernel_rfl) (by kernel_rfl) (by kernel_rfl) (Or.inl ⟨by rfl, fun w' hSw => ?_⟩) HBd.out ?_
      rotate_left
      · go_simp
        all_goals with_reducible rfl
      simp only [Act.put, List.setIfInBounds_toArray, List.set_cons_zero, List.set_cons_succ]
      refine ord_call (f := 33) (args := #[.slice none 0 0, .int .i64 sl]) (w1 := wq.drew) (i := 14) (fuel := 2) (by simp; rfl) (by kernel_rfl) (by rfl) ?_ ?_
      · go_simp
        all_goals with_reducible rfl
      refine (refInt_c none 0 0 [] sl _ (by omega) (by omega) (Bs.nil_ _ _) (by omega)).mono ?_
      rintro e w8 ⟨gd, cd, rfl, ho, hb⟩
      rw [Nat.zero_add, HQL.out] at ho
      rw [Nat.zero_add, HQL.out]
      have HO8 := Lib.hid ho
      have HBw8 := Lib.hid (show Below wq.heap.size wq w8 from (Below.refl _ _).drew.trans hb)
      have hmx : ql + t.length ≤ 140737488355328 := by omega
      obtain ⟨v9, w9, hrun, hown9, hgrow9, _⟩ := Lib.run_append_own_string (P := Try.prog) w8 wq.heap.size 42 9 42 5 i0 Try.u42 Try.underlying9 hi hz0 hz1 hz2 (.slice (some ⟨gd, 0, none⟩) ql cd) ql (Lib.byteCells ([] ++ enc (zig sl))) ho.2 ⟨t.toArray⟩ (by rw [hts]; unfold maxLen; omega) (by rw [hts]; exact hmx) HBw8.out.size
      have HB9 := Lib.hid (show Below wq.heap.size wq w9 from HBw8.out.grown hgrow9 HBw8.out.size (fun k hk => by cases hk; exact ho.ge))
      rw [strCells_of, ← Lib.byteCells_append, hts] at hown9
      obtain ⟨g9, c9, rfl, ho9⟩ := own_of hown9 (by omega)
      have HO9 := Lib.hid ho9
      clear ho hb hown9 hgrow9 ho9 hmx
      refine ⟨_, rfl, HBw8.out, ?_⟩
      simp only [Act.put, List.setIfInBounds_toArray, List.set_cons_zero, List.set_cons_succ]
      refine ord_only (v := ?_) (w' := w9) (i := 16) (fuel := 1) (by simp; rfl) (by kernel_rfl) (by rfl) ?_ HB9.out ?_
      rotate_left
      · refine (append_run (s := .tmp 86) (x := .tmp 87) (v := .slice (some ⟨gd, 0, none⟩) ql cd) (xv := .string ⟨t.toArray⟩) rfl (by rfl) (by rfl) hrun).trans ?_
        with_reducible rfl
      simp only [Act.put, List.setIfInBounds_toArray, List.set_cons_zero, List.set_cons_succ]
      refine ord_take (v := ?_) (i := 17) (fuel := 0) (by simp; rfl) (by kernel_rfl) (by kernel_rfl) (by kernel_rfl) (Or.inl ⟨by rfl, fun w' hSw => ?_⟩) HB9.out ?_
      rotate_left
      · go_simp
        all_goals with_reducible rfl
      simp only [Act.put, List.setIfInBounds_toArray, List.set_cons_zero, List.set_cons_succ]
      refine ord_done (by kernel_rfl) ?_ _
      go_wp2_with fail
      go_meet
      case rel => exact ⟨g9, _, c9, _, rfl, rfl, HO9.out.bs, by omega, HB9.out⟩
    case rest =>
      as_aux_lemma =>
      obtain ⟨g9, n9, c9, l9, rfl, rfl, hb9, hn9, hb⟩ := hcut
      obtain ⟨wL, rfl⟩ : ∃ W : World, W = wc := ⟨_, rfl⟩
      have H1 := Lib.hid ((HLc.out.below hb).more hb.size)
      have H2 := Lib.hid ((HX7.out.below hb).more hb.size)
      have H3 := Lib.hid ((HZ7.out.below hb).more hb.size)
      have H4 := Lib.hid hb9
      have HBL := Lib.hid (bel_tr HBc.out hb)
      clear hb hb9 HX7 HZ7 HLc HBc hslw hts
      go_wp2
      go_loopw [90] (fun i wr => ∃ k : Int, 0 ≤ k ∧ k ≤ 4 ∧ i = .int .i64 k ∧ Below wL.heap.size wL wr) (fun i _ => 4 - (intOf i).toNat)
      case atStart => exact ⟨0, by decide, by decide, rfl, Below.refl _ _⟩
      case round =>
        obtain ⟨k, k0, k4, rfl, hb⟩ := hrel
        have HBr := Lib.hid hb
        clear hb
        by_cases hk : k = 4
        · subst hk
          go_wp2_with fail
          (with_reducible refine (known4_c _).mono ?_)
          rintro e wz ⟨rfl, hb⟩
          have HBz := Lib.hid (bel_tr (bel_tr HBL.out HBr.out) hb)
          clear hb
          go_wp2
          go_ret
          exact ⟨rfl, HBz.out⟩
        · obtain ⟨A, m, c, l, hidx, hbs, hm⟩ : ∃ (A : Option Addr) (m c : Nat) (l : List UInt8), (∀ W : World, (Instr.index 49 (.agg #[.slice A0 n0 c0, .slice (some ⟨w1.heap.size, kf, none⟩) qn 10, .slice (some ⟨g4, kf, none⟩) (n4 - kf) (c4 - kf), .slice (some ⟨g9, 0, none⟩) n9 c9]) (.int .i64 k)).run Try.prog W = .ok (.slice A m c) W) ∧ Bs wL wL.heap.size A m c l ∧ m ≤ 140737488355328 := by
            rcases (show k = 0 ∨ k = 1 ∨ k = 2 ∨ k = 3 by omega) with rfl | rfl | rfl | rfl
            · exact ⟨_, _, _, _, fun W => by kernel_rfl, H1.out, by omega⟩
            · exact ⟨_, _, _, _, fun W => by kernel_rfl, H2.out, by omega⟩
            · exact ⟨_, _, _, _, fun W => by kernel_rfl, H3.out, by omega⟩
            · exact ⟨_, _, _, _, fun W => by kernel_rfl, H4.out, by omega⟩
          have HBS := Lib.hid ((hbs.below HBr.out).more HBr.out.size)
          have HTL := Lib.hid (show l.take m = l from List.take_of_length_le (by rw [hbs.len]; exact Nat.le_refl _))
          have hk3 : k < 4 := by omega
          clear hbs hk
          go_wp2_with fail
          (with_reducible refine (few_c A m c l (m : Int) m m _ HBS.out rfl (Nat.min_self _) (by omega)).mono ?_)
          rintro e wf ⟨g, cg, rfl, ho, hb⟩
          rw [HTL.out] at ho
          have HOf := Lib.hid ho
          have HBf := Lib.hid (HBr.out.trans (hb.mono HBr.out.size))
          have hgL := Lib.hid (show wL.heap.size ≤ g from Nat.le_trans HBr.out.size ho.ge)
          have hmc := ho.room
          clear ho hb hidx
          go_upto_region 11 with fail
          go_cut [104] (fun c' wx => wx = wf ∧ ∃ β : Bool, c' = .bool β ∧ (β = true → 0 < m))
          case first =>
            as_aux_lemma =>
            by_cases hm0 : 0 < m
            · have i1 : (0 : Int) < (m : Int) := by omega
              go_wp2_with fail
              all_goals
                go_meet
                case rel => exact ⟨rfl, _, rfl, fun _ => hm0⟩
            · have i1 : ¬ (0 : Int) < (m : Int) := by omega
              go_wp2_with fail
              go_meet
              case rel => exact ⟨rfl, false, rfl, fun h => by cases h⟩
          case rest =>
          obtain ⟨hw, β, rfl, hβ⟩ := hcut
          have hw' := hw.symm
          clear hw
          subst hw'
          go_upto_if 104 with fail
          go_cut [21] (fun v' wx => ∃ l1 : List UInt8, v' = .slice (some ⟨g, 0, none⟩) m cg ∧ Bs wx wx.heap.size (some ⟨g, 0, none⟩) m cg l1 ∧ Below wL.heap.size wL wx)
          case first =>
            as_aux_lemma =>
            cases β with
            | true =>
              have hm0 := hβ rfl
              have i1 : (0 : Int) < (m : Int) := by omega
              clear hβ
              go_wp2_with fail
              refine (pick_big at' (m : Int) _ i1 (by omega)).mono ?_
              rintro e w' ⟨_, ⟨r, ⟨r0, r1⟩, rfl⟩, rfl, rfl⟩
              obtain ⟨j, rfl⟩ := Int.eq_ofNat_of_zero_le r0
              have hj : j < m := by omega
              obtain ⟨g', o', hjl, e', _, hcell⟩ := HOf.out.bs.at_ hj
              cases e'
              simp only [Nat.zero_add] at hcell
              have hfz := HOf.out.frozen j
              obtain ⟨z, hz, z0, z1⟩ := xor_u8 (l[j]'hjl).toNat wth
              have HST := Lib.hid (HOf.out.bs_set hj z z0 z1)
              go_wp2_with fail
              go_meet
              case rel => exact ⟨_, rfl, HST.out.more (by simp), HBf.out.setCell hgL.out _⟩
            | false =>
              go_wp2_with fail
              go_meet
              case rel => exact ⟨l, rfl, HOf.out.bs, HBf.out⟩
          case rest =>
            as_aux_lemma =>
            obtain ⟨l1, rfl, hbs, hb⟩ := hcut
            have HV1 := Lib.hid hbs
            have HBv1 := Lib.hid hb
            clear hbs hb HOf HBf
            obtain ⟨wa, rfl⟩ : ∃ W : World, W = wc := ⟨_, rfl⟩
            go_upto_if 117 with fail
            go_cut [21] (fun v' wx => ∃ (n' : Nat) (l2 : List UInt8), v' = .slice (some ⟨g, 0, none⟩) n' cg ∧ Bs wx wx.heap.size (some ⟨g, 0, none⟩) n' cg l2 ∧ n' ≤ m ∧ Below wL.heap.size wL wx)
            case first =>
              as_aux_lemma =>
              cases h4 : (cut.tmod 4 == 0) with
              | true =>
                go_wp2_with fail
                refine (pick_big cut ((m : Int) + 1) _ (by omega) (by omega)).mono ?_
                rintro e w' ⟨_, ⟨r, ⟨r0, r1⟩, rfl⟩, rfl, rfl⟩
                obtain ⟨j, rfl⟩ := Int.eq_ofNat_of_zero_le r0
                have hj : j ≤ m := by omega
                have hj2 : (j : Int) ≤ (cg : Int) := by omega
                have HST := Lib.hid (HV1.out.head (k := j) hj)
                go_wp2_with fail
                go_meet
                case rel => exact ⟨j, l1.take j, rfl, HST.out, hj, HBv1.out⟩
              | false =>
                go_wp2_with fail
                go_meet
                case rel => exact ⟨m, l1, rfl, HV1.out, Nat.le_refl _, HBv1.out⟩
            case rest =>
            as_aux_lemma =>
            clear HV1 HBv1
            obtain ⟨n', l1, rfl, hbs, hnm, hb⟩ := hcut
            obtain ⟨wv, rfl⟩ : ∃ W : World, W = wc := ⟨_, rfl⟩
            have HV := Lib.hid hbs
            have HBv := Lib.hid hb
            clear hbs hb
            by_cases hz : firstS l1 = 0
            · have HZ := Lib.hid hz
              have HT := Lib.hid (show firstS l1 = 0 ∨ firstN l1 < 0 ∨ (n' : Int) - firstS l1 < firstN l1 from .inl hz)
              clear hz
              go_wp2_with fail
              (with_reducible refine (readInt_no (some ⟨g, 0, none⟩) n' cg l1 _ HV.out (by omega) HZ.out).mono ?_)
              rintro e w' ⟨rfl, rfl⟩
              go_wp2_with fail
              (with_reducible refine (refRead_c (some ⟨g, 0, none⟩) n' cg l1 _ HV.out (by omega)).mono ?_)
              rintro e w' (⟨_, rfl, rfl⟩ | ⟨hne, _⟩)
              rotate_left
              · exact absurd HZ.out hne
              have qn0 := str_run (Bs.nil_ wv wv.heap.size)
              go_wp2_with fail
              (with_reducible refine (readText_no (some ⟨g, 0, none⟩) n' cg l1 _ HV.out (by omega) HT.out).mono ?_)
              rintro e w' ⟨rfl, rfl⟩
              go_wp2_with fail
              (with_reducible refine (refReadText_c (some ⟨g, 0, none⟩) n' cg l1 _ HV.out (by omega)).mono ?_)
              rintro e wz (⟨_, rfl, hb⟩ | ⟨s', y', A', m', c', hs', hy', h0', hle', _⟩)
              rotate_left
              · exfalso
                rcases HT.out with h | h | h <;> omega
              have HBE := Lib.hid (HBv.out.trans (hb.mono HBv.out.size))
              have qn := str_run (Bs.nil_ wz wz.heap.size)
              clear hb
              go_wp2
              go_roundw
              case rel => exact ⟨k + 1, by omega, by omega, rfl, HBE.out⟩
              case measure => simp [intOf]; omega
            · obtain ⟨s, hs⟩ : ∃ s, firstS l1 = s := ⟨_, rfl⟩
              obtain ⟨x, hx⟩ : ∃ x, firstN l1 = x := ⟨_, rfl⟩
              have hsl := firstS_le l1
              rw [HV.out.len, hs] at hsl
              rw [hs] at hz
              have h0 : s ≠ 0 := hz
              have HS := Lib.hid hs
              have HXx := Lib.hid hx
              clear hs hx hz
              go_wp2_with fail
              (with_reducible refine (readInt_yes (some ⟨g, 0, none⟩) n' cg l1 _ x s HV.out (by omega) HXx.out HS.out h0).mono ?_)
              rintro e wa1 ⟨rfl, ho, hb⟩
              have HV1 := Lib.hid ((HV.out.below hb).more hb.size)
              have HO1 := Lib.hid ho
              have HBv1 := Lib.hid (HBv.out.trans (hb.mono HBv.out.size))
              clear ho hb
              go_wp2_with fail
              (with_reducible refine (refRead_c (some ⟨g, 0, none⟩) n' cg l1 _ HV1.out (by omega)).mono ?_)
              rintro e wa2 (⟨hno, _⟩ | ⟨_, g2, c2, rfl, ho, hb⟩)
              · exact absurd (HS.out.symm.trans hno) h0
              rw [HS.out] at ho
              rw [HS.out, HXx.out]
              have HV2 := Lib.hid ((HV1.out.below hb).more hb.size)
              have HBv2 := Lib.hid (HBv1.out.trans (hb.mono HBv1.out.size))
              have q1 := str_run (HO1.out.below hb HO1.out.lt).bs
              have q2 := str_run ho.bs
              clear ho hb HV1 HBv1
              by_cases hno : firstN l1 < 0 ∨ (n' : Int) - firstS l1 < firstN l1
              · have HT := Lib.hid (show firstS l1 = 0 ∨ firstN l1 < 0 ∨ (n' : Int) - firstS l1 < firstN l1 from .inr hno)
                clear hno
                go_wp2_with fail
                (with_reducible refine (readText_no (some ⟨g, 0, none⟩) n' cg l1 _ HV2.out (by omega) HT.out).mono ?_)
                rintro e w' ⟨rfl, rfl⟩
                go_wp2_with fail
                (with_reducible refine (refReadText_c (some ⟨g, 0, none⟩) n' cg l1 _ HV2.out (by omega)).mono ?_)
                rintro e wz (⟨_, rfl, hb⟩ | ⟨s', y', A', m', c', hs', hy', h0', hle', _⟩)
                rotate_left
                · exfalso
                  rcases HT.out with h | h | h <;> omega
                have HBE := Lib.hid (HBv2.out.trans (hb.mono HBv2.out.size))
                have qn := str_run (Bs.nil_ wz wz.heap.size)
                clear hb
                go_wp2
                go_roundw
                case rel => exact ⟨k + 1, by omega, by omega, rfl, HBE.out⟩
                case measure => simp [intOf]; omega
              · obtain ⟨y, hy⟩ := Int.eq_ofNat_of_zero_le (show 0 ≤ firstN l1 by omega)
                have hle : s + y ≤ n' := by have := HS.out; omega
                have HX := Lib.hid hy
                clear hno hy
                go_wp2_with fail
                (with_reducible refine (readText_yes (some ⟨g, 0, none⟩) n' cg l1 _ y s HV2.out (by omega) HX.out HS.out h0 hle).mono ?_)
                rintro e wy ⟨rfl, ho, hb⟩
                have HVy := Lib.hid ((HV2.out.below hb).more hb.size)
                have HOy := Lib.hid ho
                have HBy := Lib.hid (HBv2.out.trans (hb.mono HBv2.out.size))
                clear ho hb
                go_wp2_with fail
                (with_reducible refine (refReadText_c (some ⟨g, 0, none⟩) n' cg l1 _ HVy.out (by omega)).mono ?_)
                rintro e wz (⟨hno, _⟩ | ⟨s', y', A', m', c', hs', hy', h0', hle', rfl, hbs, hb⟩)
                · exfalso
                  have e1 := HS.out
                  have e2 := HX.out
                  rcases hno with h | h | h <;> omega
                obtain rfl : s = s' := HS.out.symm.trans hs'
                obtain rfl : y = y' := by have := HX.out.symm.trans hy'; omega
                have HBE := Lib.hid (HBy.out.trans (hb.mono HBy.out.size))
                have qa := str_run (HOy.out.below hb HOy.out.lt).bs
                have qb := str_run hbs
                clear hbs hb hs' hy' h0' hle'
                go_wp2
                go_roundw
                case rel => exact ⟨k + 1, by omega, by omega, rfl, HBE.out⟩
                case measure => simp [intOf]; omega
end Go.Proofs.Ytnefckiaojhcdaa


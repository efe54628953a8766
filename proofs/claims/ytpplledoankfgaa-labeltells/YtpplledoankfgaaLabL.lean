/- LabelTells. -/
import Derived.Test.YtpplledoankfgaaLabK
namespace Go.Proofs.Ytpplledoankfgaa
open Go.RowKit
def pickI (n m : Int) : Int := if n.tmod m < 0 then n.tmod m + m else n.tmod m
theorem pickI_range (n m : Int) (hm : 0 < m) : 0 ≤ pickI n m ∧ pickI n m < m := by
  have h1 : n.tmod m < m := Int.tmod_lt_of_pos n hm
  have h2 : -m < n.tmod m := by
    have := Int.lt_tmod_of_pos n hm
    omega
  unfold pickI
  split <;> omega
set_option maxHeartbeats 400000 in
theorem pick_d (n m r : Int) (w : World) (hm : 0 < m) (hm2 : m ≤ 1000000000000) (hr : pickI n m = r) :
    Calls Try.prog 19 #[.int .i64 n, .int .i64 m] w fun e w' => e = .returned (.int .i64 r) ∧ w = w' := by
  have h1 : n.tmod m < m := Int.tmod_lt_of_pos n hm
  have h2 : -m < n.tmod m := by
    have := Int.lt_tmod_of_pos n hm
    omega
  unfold pickI at hr
  obtain ⟨t, ht⟩ : ∃ t, n.tmod m = t := ⟨_, rfl⟩
  rw [ht] at h1 h2 hr
  have hne : (m == 0) = false := by simp; omega
  subst hr
  by_cases hneg : t < 0
  · rw [if_pos hneg]
    go_enter Try.func19, Try.ntmps19
    go_wp2
    go_ret
    exact ⟨rfl, rfl⟩
  · rw [if_neg hneg]
    go_enter Try.func19, Try.ntmps19
    go_wp2
    go_ret
    exact ⟨rfl, rfl⟩
theorem size_l (L : List UInt8) : (⟨L.toArray⟩ : ByteArray).size = L.length := by
  show L.toArray.size = _
  simp
theorem size_3 (L : List UInt8) (j : Nat) (x : ByteArray) (hl : L.length ≤ 100) (hx : x.size ≤ 100) : ((⟨L.toArray⟩ : ByteArray).extract 0 j ++ x ++ (⟨L.toArray⟩ : ByteArray).extract j L.length).size ≤ 1000 := by
  rw [ByteArray.size_append, ByteArray.size_append, ByteArray.size_extract, ByteArray.size_extract, size_l]
  omega
theorem to_list (b : ByteArray) : ∃ X : List UInt8, b = ⟨X.toArray⟩ ∧ X.length = b.size := ⟨b.data.toList, by simp, by rw [Array.length_toList]; rfl⟩
theorem lidx5 (u : Int) (h0 : 0 ≤ u) (h5 : u < 5) : ∃ x : ByteArray, x.size ≤ 100 ∧ ∀ w : World, (Instr.index 38 (.agg #[.string ⟨#[48]⟩, .string ⟨#[55]⟩, .string ⟨#[58]⟩, .string ⟨#[32]⟩, .string ⟨#[56]⟩]) (.int .i64 u)).run Try.prog w = .ok (.string x) w := by
  rcases (show u = 0 ∨ u = 1 ∨ u = 2 ∨ u = 3 ∨ u = 4 by omega) with rfl | rfl | rfl | rfl | rfl
  · exact ⟨⟨#[48]⟩, by decide, fun w => by kernel_rfl⟩
  · exact ⟨⟨#[55]⟩, by decide, fun w => by kernel_rfl⟩
  · exact ⟨⟨#[58]⟩, by decide, fun w => by kernel_rfl⟩
  · exact ⟨⟨#[32]⟩, by decide, fun w => by kernel_rfl⟩
  · exact ⟨⟨#[56]⟩, by decide, fun w => by kernel_rfl⟩
theorem printL_le (n : Nat) (v : Int) : (printL n v).length ≤ 10 := by
  unfold printL
  have := memL_le n
  split
  · simp; omega
  · simp
/-- Two labels, wherever they lie. -/
def LT (w : World) (ga gb N M : Nat) (V U : Int) (W : World) : Prop :=
  Blk W ga 25 #[.int .u64 (N : Int), .int .i64 V] ∧ Blk W gb 25 #[.int .u64 (M : Int), .int .i64 U] ∧ Below w.heap.size w W
section
variable {w W W' : World} {ga gb N M : Nat} {V U : Int}
theorem LT.below (h : LT w ga gb N M V U W) (hb : Below W.heap.size W W') : LT w ga gb N M V U W' := ⟨h.1.below hb h.1.lt, h.2.1.below hb h.2.1.lt, bel_tr2 h.2.2 hb⟩
theorem LT.drew (h : LT w ga gb N M V U W) : LT w ga gb N M V U W.drew := ⟨h.1.drew, h.2.1.drew, h.2.2.drew⟩
theorem LT.alloc (h : LT w ga gb N M V U W) (o : Obj) : LT w ga gb N M V U (W.alloc o) := ⟨h.1.alloc o, h.2.1.alloc o, bel_alloc h.2.2 o⟩
theorem LT.cells (h : LT w ga gb N M V U W) : Cel W ga N V ∧ Cel W gb M U := ⟨cel_of h.1, cel_of h.2.1⟩
end
section
variable (a b : Nat) (v u : Int) (w : World) (ha : a < 18446744073709551616) (hb : b < 18446744073709551616)
include ha hb
theorem rjoin_v (n : Nat) (r : Int) (hz : a ||| b = n) (hr : max v u = r) : Calls Try.prog 24 #[.agg #[.int .u64 (a : Int), .int .i64 v], .agg #[.int .u64 (b : Int), .int .i64 u]] w fun e w' => e = .returned (.agg #[.int .u64 (n : Int), .int .i64 r]) ∧ Below w.heap.size w w' := by
  subst hz hr
  exact rjoin_c a b a b v u w rfl rfl ha hb
theorem rmeet_v (n : Nat) (r : Int) (hz : a &&& b = n) (hr : min v u = r) : Calls Try.prog 25 #[.agg #[.int .u64 (a : Int), .int .i64 v], .agg #[.int .u64 (b : Int), .int .i64 u]] w fun e w' => e = .returned (.agg #[.int .u64 (n : Int), .int .i64 r]) ∧ Below w.heap.size w w' := by
  subst hz hr
  exact rmeet_c a b a b v u w rfl rfl ha hb
theorem join_n (n : Nat) (r : Int) (hz : a ||| b = n) (hr : max v u = r) : Calls Try.prog 11 #[.agg #[.int .u64 (a : Int), .int .i64 v], .agg #[.int .u64 (b : Int), .int .i64 u]] w fun e w' => e = .returned (.agg #[.int .u64 (n : Int), .int .i64 r]) ∧ Below w.heap.size w w' :=
  join_v a b a b v u n r w rfl rfl ha hb (by rw [hz]) hr
theorem meet_n (n : Nat) (r : Int) (hz : a &&& b = n) (hr : min v u = r) : Calls Try.prog 12 #[.agg #[.int .u64 (a : Int), .int .i64 v], .agg #[.int .u64 (b : Int), .int .i64 u]] w fun e w' => e = .returned (.agg #[.int .u64 (n : Int), .int .i64 r]) ∧ Below w.heap.size w w' :=
  meet_v a b a b v u n r w rfl rfl ha hb (by rw [hz]) hr
end
theorem rbelow_v (a b : Nat) (v u : Int) (w : World) (ha : a < 18446744073709551616) (q : Bool) (hq : belowB a v b u = q) : Calls Try.prog 23 #[.agg #[.int .u64 (a : Int), .int .i64 v], .agg #[.int .u64 (b : Int), .int .i64 u]] w fun e w' => e = .returned (.bool q) ∧ Below w.heap.size w w' := by
  subst hq
  exact rbelow_c a b a b v u w rfl rfl ha
theorem rright_v (a : Nat) (v : Int) (q : Bool) (w : World) (hq : rightB a v = q) : Calls Try.prog 22 #[.agg #[.int .u64 (a : Int), .int .i64 v]] w fun e w' => e = .returned (.bool q) ∧ Below w.heap.size w w' := by
  subst hq
  exact rright_c a a v w rfl
theorem of_n (x v : Int) (n : Nat) (r : Int) (w : World) (hz : ofSet x = n) (hr : min (max v 0) 3 = r) : Calls Try.prog 14 #[.int .i64 x, .int .i64 v] w fun e w' => e = .returned (.agg #[.int .u64 (n : Int), .int .i64 r]) ∧ Below w.heap.size w w' := of_v x v n r w (by rw [hz]) hr
theorem rof_n (x v : Int) (n : Nat) (r : Int) (w : World) (hz : ofSet x = n) (hr : min (max v 0) 3 = r) : Calls Try.prog 26 #[.int .i64 x, .int .i64 v] w fun e w' => e = .returned (.agg #[.int .u64 (n : Int), .int .i64 r]) ∧ Below w.heap.size w w' := by
  subst hz hr
  exact rof_c x v w
set_option maxRecDepth 100000 in
set_option maxHeartbeats 6400000 in
theorem labelTells_c (x0 x1 x2 x3 x4 : Int) (t : List UInt8) (x6 : Int) (w : World) (h1 : -9223372036854775808 ≤ x1 ∧ x1 ≤ 9223372036854775807) (h3 : -9223372036854775808 ≤ x3 ∧ x3 ≤ 9223372036854775807) (h6 : -9223372036854775808 ≤ x6 ∧ x6 ≤ 9223372036854775807) (ht : t.length ≤ 281474976710656) :
    Calls Try.prog 4 #[.int .i64 x0, .int .i64 x1, .int .i64 x2, .int .i64 x3, .int .i64 x4, .string ⟨t.toArray⟩, .int .i64 x6] w fun e w' => e = .returned (.bool true) ∧ Below w.heap.size w w' := by
  have HT := Lib.hid ht
  have H6 := Lib.hid h6
  clear ht h6
  go_enter Try.func4, Try.ntmps4
  go_wp2_with fail
  (with_reducible refine (hlabel_c x0 x1 _ h1).mono ?_)
  rintro e w1 ⟨N, V, hN, hV, rfl, hb⟩
  have hA := Blk.new w1 25 #[.int .u64 (N : Int), .int .i64 V]
  have hb1 := bel_alloc hb (.cells #[.int .u64 (N : Int), .int .i64 V] 25)
  clear hb
  obtain ⟨ga, hga⟩ : ∃ ga, w1.heap.size = ga := ⟨_, rfl⟩
  rw [hga] at hA
  obtain ⟨W1, hW1⟩ : ∃ W1, w1.alloc (.cells #[.int .u64 (N : Int), .int .i64 V] 25) = W1 := ⟨_, rfl⟩
  rw [hW1] at hA hb1
  go_wp2_with fail
  clear hga hW1
  (with_reducible refine (hlabel_c x2 x3 _ h3).mono ?_)
  rintro e w2 ⟨M, U, hM, hU, rfl, hb⟩
  have HK := Lib.hid (show LT w ga w2.heap.size N M V U (w2.alloc (.cells #[.int .u64 (M : Int), .int .i64 U] 25)) from ⟨(hA.below hb hA.lt).alloc _, Blk.new w2 _ _, bel_alloc (bel_tr2 hb1 hb) _⟩)
  obtain ⟨gb, hgb⟩ : ∃ gb, w2.heap.size = gb := ⟨_, rfl⟩
  rw [hgb] at HK
  obtain ⟨W2, hW2⟩ : ∃ W2, w2.alloc (.cells #[.int .u64 (M : Int), .int .i64 U] 25) = W2 := ⟨_, rfl⟩
  rw [hW2] at HK
  clear hb hA hb1
  have HPR := Lib.hid (fun w' => print_c N (N : Int) V w' rfl hN)
  have HRP := Lib.hid (fun w' => rprint_c N (N : Int) V w' rfl)
  have hT10 := printL_le N V
  obtain ⟨T, hT⟩ : ∃ T, printL N V = T := ⟨_, rfl⟩
  rw [hT] at HPR HRP hT10
  clear hT
  obtain ⟨⟨a0, a1⟩, ⟨b0, b1⟩⟩ := HK.out.cells
  go_wp2_with fail
  clear hW2 hgb
  (with_reducible refine (HPR.out _).mono ?_)
  rintro e w3 ⟨rfl, hb⟩
  have HK3 := Lib.hid (HK.out.below hb)
  clear hb HK a0 a1 b0 b1
  obtain ⟨⟨a0, a1⟩, ⟨b0, b1⟩⟩ := HK3.out.cells
  go_wp2_with fail
  (with_reducible refine (HRP.out _).mono ?_)
  rintro e w4 ⟨rfl, hb⟩
  have HK4 := Lib.hid (HK3.out.below hb)
  clear hb HK3 a0 a1 b0 b1 HPR HRP
  go_wp2_with fail
  (with_reducible refine (pickB x6 4 _ (by omega) (by omega)).mono ?_)
  rintro e w' ⟨k, hk, rfl, rfl⟩
  go_upto_block 0 with fail
  go_cut [18, 19, 42] (fun v _ _ wx => (∃ X : List UInt8, v = .string ⟨X.toArray⟩ ∧ X.length ≤ 281474976710656) ∧ LT w ga gb N M V U wx)
  case first =>
    as_aux_lemma =>
    by_cases k1 : (k : Int) = 1
    · go_wp2_with fail
      go_meet
      case rel => exact ⟨⟨t, rfl, HT.out⟩, HK4.out⟩
    · by_cases k2 : (k : Int) = 2
      · have h6 := H6.out
        have ew : IntKind.i64.wrap (x6.tdiv 4) = x6.tdiv 4 := by
          have h1 : (x6.tdiv 4).natAbs = x6.natAbs / 4 := Int.natAbs_tdiv x6 4
          rw [IntKind.wrap_i64]; omega
        clear h6
        go_wp2_with fail
        (with_reducible refine (pickB _ _ _ (by omega) (by omega)).mono ?_)
        rintro e w' ⟨j, hj, rfl, rfl⟩
        have hj2 : j ≤ T.length := by omega
        have hji : (j : Int) ≤ (T.length : Int) := by omega
        obtain ⟨u, hu⟩ : ∃ u, pickI x2 5 = u := ⟨_, rfl⟩
        have hur := pickI_range x2 5 (by omega)
        rw [hu] at hur
        obtain ⟨u0, u5⟩ := hur
        have PC := Lib.hid (fun w => pick_d x2 5 u w (by omega) (by omega) hu)
        clear hu
        obtain ⟨x, hx, hix⟩ := lidx5 u u0 u5
        have HIX := Lib.hid hix
        have hc1 : ¬ 9223372036854775807 < j + x.size := by omega
        have hc2 : ¬ 9223372036854775807 < j + x.size + (T.length - j) := by omega
        obtain ⟨X, hX, hXl⟩ := to_list ((⟨T.toArray⟩ : ByteArray).extract 0 j ++ x ++ (⟨T.toArray⟩ : ByteArray).extract j T.length)
        have HXL := Lib.hid (show X.length ≤ 281474976710656 by rw [hXl]; have := size_3 T j x (by omega) hx; omega)
        have HX := Lib.hid hX
        clear hix hX hXl
        go_wp2_with fail
        refine wp_region_det (S := fun V => V = w4.drew) (by kernel_rfl) rfl ?_
        refine det_take (v := ?_) (i := 0) (fuel := 12) (by simp; rfl) (by kernel_rfl) (by kernel_rfl) (by kernel_rfl) (Or.inl ⟨by rfl, fun w' hS => Or.inl ⟨w', ?_, hS⟩⟩) ?_
        rotate_left
        · obtain rfl := hS
          go_simp
          all_goals with_reducible rfl
        simp only [Act.put, List.setIfInBounds_toArray, List.set_cons_zero, List.set_cons_succ]
        refine det_take (v := ?_) (i := 1) (fuel := 11) (by simp; rfl) (by kernel_rfl) (by kernel_rfl) (by kernel_rfl) (Or.inl ⟨by rfl, fun w' hS => Or.inl ⟨w', ?_, hS⟩⟩) ?_
        rotate_left
        · obtain rfl := hS
          go_simp
          all_goals with_reducible rfl
        simp only [Act.put, List.setIfInBounds_toArray, List.set_cons_zero, List.set_cons_succ]
        refine det_take (v := ?_) (i := 2) (fuel := 10) (by simp; rfl) (by kernel_rfl) (by kernel_rfl) (by kernel_rfl) (Or.inl ⟨by rfl, fun w' hS => Or.inl ⟨w', ?_, hS⟩⟩) ?_
        rotate_left
        · obtain rfl := hS
          go_simp
          all_goals with_reducible rfl
        simp only [Act.put, List.setIfInBounds_toArray, List.set_cons_zero, List.set_cons_succ]
        refine det_take (v := ?_) (i := 3) (fuel := 9) (by simp; rfl) (by kernel_rfl) (by kernel_rfl) (by kernel_rfl) (Or.inl ⟨by rfl, fun w' hS => Or.inl ⟨w', ?_, hS⟩⟩) ?_
        rotate_left
        · obtain rfl := hS
          go_simp
          all_goals with_reducible rfl
        simp only [Act.put, List.setIfInBounds_toArray, List.set_cons_zero, List.set_cons_succ]
        refine det_take (v := ?_) (i := 4) (fuel := 8) (by simp; rfl) (by kernel_rfl) (by kernel_rfl) (by kernel_rfl) (Or.inl ⟨by rfl, fun w' hS => Or.inl ⟨w', ?_, hS⟩⟩) ?_
        rotate_left
        · obtain rfl := hS
          go_simp
          all_goals with_reducible rfl
        simp only [Act.put, List.setIfInBounds_toArray, List.set_cons_zero, List.set_cons_succ]
        refine det_take (v := ?_) (i := 5) (fuel := 7) (by simp; rfl) (by kernel_rfl) (by kernel_rfl) (by kernel_rfl) (Or.inl ⟨by rfl, fun w' hS => Or.inr ⟨19, #[.int .i64 x2, .int .i64 5], w', ?_, ?_⟩⟩) ?_
        rotate_left
        · go_simp
          all_goals with_reducible rfl
        · exact (PC.out w').mono fun e w2 h => ⟨by rw [h.1], h.2 ▸ hS⟩
        simp only [Act.put, List.setIfInBounds_toArray, List.set_cons_zero, List.set_cons_succ]
        refine det_take (v := ?_) (i := 6) (fuel := 6) (by simp; rfl) (by kernel_rfl) (by kernel_rfl) (by kernel_rfl) (Or.inl ⟨by rfl, fun w' hS => Or.inl ⟨w', ?_, hS⟩⟩) ?_
        rotate_left
        · obtain rfl := hS
          have hxw := HIX.out w4.drew
          go_simp
          all_goals with_reducible rfl
        simp only [Act.put, List.setIfInBounds_toArray, List.set_cons_zero, List.set_cons_succ]
        refine det_take (v := ?_) (i := 7) (fuel := 5) (by simp; rfl) (by kernel_rfl) (by kernel_rfl) (by kernel_rfl) (Or.inl ⟨by rfl, fun w' hS => Or.inl ⟨w', ?_, hS⟩⟩) ?_
        rotate_left
        · obtain rfl := hS
          go_simp
          all_goals with_reducible rfl
        simp only [Act.put, List.setIfInBounds_toArray, List.set_cons_zero, List.set_cons_succ]
        refine det_take (v := ?_) (i := 8) (fuel := 4) (by simp; rfl) (by kernel_rfl) (by kernel_rfl) (by kernel_rfl) (Or.inl ⟨by rfl, fun w' hS => Or.inl ⟨w', ?_, hS⟩⟩) ?_
        rotate_left
        · obtain rfl := hS
          go_simp
          all_goals with_reducible rfl
        simp only [Act.put, List.setIfInBounds_toArray, List.set_cons_zero, List.set_cons_succ]
        refine det_take (v := ?_) (i := 9) (fuel := 3) (by simp; rfl) (by kernel_rfl) (by kernel_rfl) (by kernel_rfl) (Or.inl ⟨by rfl, fun w' hS => Or.inl ⟨w', ?_, hS⟩⟩) ?_
        rotate_left
        · obtain rfl := hS
          go_simp
          all_goals with_reducible rfl
        simp only [Act.put, List.setIfInBounds_toArray, List.set_cons_zero, List.set_cons_succ]
        refine det_take (v := ?_) (i := 10) (fuel := 2) (by simp; rfl) (by kernel_rfl) (by kernel_rfl) (by kernel_rfl) (Or.inl ⟨by rfl, fun w' hS => Or.inl ⟨w', ?_, hS⟩⟩) ?_
        rotate_left
        · obtain rfl := hS
          go_simp
          all_goals with_reducible rfl
        simp only [Act.put, List.setIfInBounds_toArray, List.set_cons_zero, List.set_cons_succ]
        refine det_take (v := ?_) (i := 11) (fuel := 1) (by simp; rfl) (by kernel_rfl) (by kernel_rfl) (by kernel_rfl) (Or.inl ⟨by rfl, fun w' hS => Or.inl ⟨w', ?_, hS⟩⟩) ?_
        rotate_left
        · obtain rfl := hS
          go_simp
          all_goals with_reducible rfl
        simp only [Act.put, List.setIfInBounds_toArray, List.set_cons_zero, List.set_cons_succ]
        refine det_take (v := ?_) (i := 12) (fuel := 0) (by simp; rfl) (by kernel_rfl) (by kernel_rfl) (by kernel_rfl) (Or.inl ⟨by rfl, fun w' hS => Or.inl ⟨w', ?_, hS⟩⟩) ?_
        rotate_left
        · obtain rfl := hS
          go_simp
          all_goals with_reducible rfl
        simp only [Act.put, List.setIfInBounds_toArray, List.set_cons_zero, List.set_cons_succ]
        refine det_done (by kernel_rfl) (fun V hV => ?_) _
        obtain rfl := hV
        go_wp2_with fail
        go_meet
        case rel => exact ⟨⟨X, congrArg Value.string HX.out, HXL.out⟩, HK4.out.drew⟩
      · go_wp2_with fail
        go_meet
        case rel => exact ⟨⟨T, rfl, by omega⟩, HK4.out⟩
  case rest =>
    as_aux_lemma =>
    obtain ⟨⟨X, rfl, hX⟩, hk⟩ := hcut
    obtain ⟨w5, rfl⟩ : ∃ V : World, V = wc := ⟨_, rfl⟩
    clear HK4
    have HK5 := Lib.hid hk
    clear hk
    have HRD := Lib.hid (fun w' => read_c X w' (by omega))
    have HRR := Lib.hid (fun w' => rread_c X w' (by omega))
    obtain ⟨n2, v2, e2, hq⟩ : ∃ n2 v2 e2, readV X = (n2, v2, e2) := ⟨_, _, _, rfl⟩
    rw [hq] at HRD HRR
    clear hq
    unfold RetR at HRD HRR
    have HMA := Lib.hid (fun w' => members_v N (N : Int) V (memL N) (memL N).length w' rfl hN rfl rfl)
    have HMR := Lib.hid (fun w' => rmembers_c N (N : Int) V w' rfl)
    have hl8 := memL_le N
    obtain ⟨L, hL⟩ : ∃ L, memL N = L := ⟨_, rfl⟩
    rw [hL] at HMA HMR hl8
    clear hL
    go_wp2_with fail
    (with_reducible refine (HRD.out _).mono ?_)
    rintro e w6 ⟨rfl, hb⟩
    dsimp only
    have HK6 := Lib.hid ((HK5.out.below hb).alloc (.cells #[.int .u64 (n2 : Int), .int .i64 v2] 25))
    have HC6 := Lib.hid (Blk.new w6 25 #[.int .u64 (n2 : Int), .int .i64 v2])
    obtain ⟨gc, hgc⟩ : ∃ g, w6.heap.size = g := ⟨_, rfl⟩
    rw [hgc] at HC6
    obtain ⟨W6, hW6⟩ : ∃ W, w6.alloc (.cells #[.int .u64 (n2 : Int), .int .i64 v2] 25) = W := ⟨_, rfl⟩
    rw [hW6] at HK6 HC6
    clear hb HK5
    go_wp2_with fail
    clear hgc hW6
    (with_reducible refine (HRR.out _).mono ?_)
    rintro e w7 ⟨rfl, hb⟩
    dsimp only
    have HK7 := Lib.hid (show LT w ga gb N M V U (w7.alloc (.cells #[.int .u64 (n2 : Int), .int .i64 v2] 25)) ∧ LT w gc w7.heap.size n2 n2 v2 v2 (w7.alloc (.cells #[.int .u64 (n2 : Int), .int .i64 v2] 25)) from
      ⟨(HK6.out.below hb).alloc _, (HC6.out.below hb HC6.out.lt).alloc _, Blk.new w7 _ _, (bel_alloc (bel_tr2 HK6.out.2.2 hb) _)⟩)
    obtain ⟨gd, hgd⟩ : ∃ g, w7.heap.size = g := ⟨_, rfl⟩
    rw [hgd] at HK7
    obtain ⟨W7, hW7⟩ : ∃ W, w7.alloc (.cells #[.int .u64 (n2 : Int), .int .i64 v2] 25) = W := ⟨_, rfl⟩
    rw [hW7] at HK7
    clear hb HK6 HC6
    obtain ⟨⟨a0, a1⟩, ⟨b0, b1⟩⟩ := HK7.out.1.cells
    go_wp2_with fail
    clear hgd hW7
    (with_reducible refine (HMA.out _).mono ?_)
    rintro e w8 ⟨P, p1, rfl, hP, hb⟩
    have HK8 := Lib.hid (show LT w ga gb N M V U w8 ∧ LT w gc gd n2 n2 v2 v2 w8 from ⟨HK7.out.1.below hb, HK7.out.2.below hb⟩)
    have HP8 := Lib.hid hP
    clear hb hP HK7 a0 a1 b0 b1
    obtain ⟨⟨a0, a1⟩, ⟨b0, b1⟩⟩ := HK8.out.1.cells
    go_wp2_with fail
    (with_reducible refine (HMR.out _).mono ?_)
    rintro e w9 ⟨Q, q1, rfl, hQ, hb⟩
    have HK9 := Lib.hid (show LT w ga gb N M V U w9 ∧ LT w gc gd n2 n2 v2 v2 w9 from ⟨HK8.out.1.below hb, HK8.out.2.below hb⟩)
    have HP9 := Lib.hid (HP8.out.below hb)
    have HQ9 := Lib.hid hQ
    clear hb hQ HK8 HP8 a0 a1 b0 b1
    go_wp2
    go_loopw [87] (fun i wr => ∃ c : Nat, c ≤ L.length ∧ i = .int .i64 c ∧ (LT w ga gb N M V U wr ∧ LT w gc gd n2 n2 v2 v2 wr) ∧ NsA wr P L ∧ NsA wr Q L) (fun i _ => 8 - (intOf i).toNat)
    case atStart => exact ⟨0, by omega, rfl, HK9.out, HP9.out, HQ9.out⟩
    case round =>
      obtain ⟨c, hc, rfl, hk, hP, hQ⟩ := hrel
      clear HK9 HP9 HQ9
      have HK := Lib.hid hk
      have HP := Lib.hid hP
      have HQ := Lib.hid hQ
      clear hk hP hQ
      by_cases hlt : c < L.length
      · have hlt' : (c : Int) < (L.length : Int) := by omega
        obtain ⟨g, rfl, hg, hcell⟩ := HP.out.lt c hlt
        obtain ⟨h, rfl, hh, hcell2⟩ := HQ.out.lt c hlt
        obtain ⟨y, hy⟩ : ∃ y, L[c] = y := ⟨_, rfl⟩
        rw [hy] at hcell hcell2
        clear hy
        go_wp2_with fail
        have hcd := hcell
        have hcd2 := hcell2
        refine wp_region_det (S := fun V => V = wr.drew) (by kernel_rfl) rfl ?_
        refine det_take (v := ?_) (i := 0) (fuel := 8) (by simp; rfl) (by kernel_rfl) (by kernel_rfl) (by kernel_rfl) (Or.inl ⟨by rfl, fun w' hS => Or.inl ⟨w', ?_, hS⟩⟩) ?_
        rotate_left
        · obtain rfl := hS
          go_simp
          all_goals with_reducible rfl
        simp only [Act.put, List.setIfInBounds_toArray, List.set_cons_zero, List.set_cons_succ]
        refine det_take (v := ?_) (i := 1) (fuel := 7) (by simp; rfl) (by kernel_rfl) (by kernel_rfl) (by kernel_rfl) (Or.inl ⟨by rfl, fun w' hS => Or.inl ⟨w', ?_, hS⟩⟩) ?_
        rotate_left
        · obtain rfl := hS
          go_simp
          all_goals with_reducible rfl
        simp only [Act.put, List.setIfInBounds_toArray, List.set_cons_zero, List.set_cons_succ]
        refine det_take (v := ?_) (i := 2) (fuel := 6) (by simp; rfl) (by kernel_rfl) (by kernel_rfl) (by kernel_rfl) (Or.inl ⟨by rfl, fun w' hS => Or.inl ⟨w', ?_, hS⟩⟩) ?_
        rotate_left
        · obtain rfl := hS
          go_simp
          all_goals with_reducible rfl
        simp only [Act.put, List.setIfInBounds_toArray, List.set_cons_zero, List.set_cons_succ]
        refine det_take (v := ?_) (i := 3) (fuel := 5) (by simp; rfl) (by kernel_rfl) (by kernel_rfl) (by kernel_rfl) (Or.inl ⟨by rfl, fun w' hS => Or.inl ⟨w', ?_, hS⟩⟩) ?_
        rotate_left
        · obtain rfl := hS
          have hq : wr.drew.cell? ⟨g, c, none⟩ = some (.int .i64 (y : Int)) := hcd
          go_simp
          all_goals with_reducible rfl
        simp only [Act.put, List.setIfInBounds_toArray, List.set_cons_zero, List.set_cons_succ]
        refine det_take (v := ?_) (i := 4) (fuel := 4) (by simp; rfl) (by kernel_rfl) (by kernel_rfl) (by kernel_rfl) (Or.inl ⟨by rfl, fun w' hS => Or.inl ⟨w', ?_, hS⟩⟩) ?_
        rotate_left
        · obtain rfl := hS
          go_simp
          all_goals with_reducible rfl
        simp only [Act.put, List.setIfInBounds_toArray, List.set_cons_zero, List.set_cons_succ]
        refine det_take (v := ?_) (i := 5) (fuel := 3) (by simp; rfl) (by kernel_rfl) (by kernel_rfl) (by kernel_rfl) (Or.inl ⟨by rfl, fun w' hS => Or.inl ⟨w', ?_, hS⟩⟩) ?_
        rotate_left
        · obtain rfl := hS
          go_simp
          all_goals with_reducible rfl
        simp only [Act.put, List.setIfInBounds_toArray, List.set_cons_zero, List.set_cons_succ]
        refine det_take (v := ?_) (i := 6) (fuel := 2) (by simp; rfl) (by kernel_rfl) (by kernel_rfl) (by kernel_rfl) (Or.inl ⟨by rfl, fun w' hS => Or.inl ⟨w', ?_, hS⟩⟩) ?_
        rotate_left
        · obtain rfl := hS
          go_simp
          all_goals with_reducible rfl
        simp only [Act.put, List.setIfInBounds_toArray, List.set_cons_zero, List.set_cons_succ]
        refine det_take (v := ?_) (i := 7) (fuel := 1) (by simp; rfl) (by kernel_rfl) (by kernel_rfl) (by kernel_rfl) (Or.inl ⟨by rfl, fun w' hS => Or.inl ⟨w', ?_, hS⟩⟩) ?_
        rotate_left
        · obtain rfl := hS
          have hq : wr.drew.cell? ⟨h, c, none⟩ = some (.int .i64 (y : Int)) := hcd2
          go_simp
          all_goals with_reducible rfl
        simp only [Act.put, List.setIfInBounds_toArray, List.set_cons_zero, List.set_cons_succ]
        refine det_take (v := ?_) (i := 8) (fuel := 0) (by simp; rfl) (by kernel_rfl) (by kernel_rfl) (by kernel_rfl) (Or.inl ⟨by rfl, fun w' hS => Or.inl ⟨w', ?_, hS⟩⟩) ?_
        rotate_left
        · obtain rfl := hS
          go_simp
          all_goals with_reducible rfl
        simp only [Act.put, List.setIfInBounds_toArray, List.set_cons_zero, List.set_cons_succ]
        refine det_done (by kernel_rfl) (fun V hV => ?_) _
        obtain rfl := hV
        clear hcell hcell2 hcd hcd2
        go_wp2
        go_roundw
        case rel => exact ⟨c + 1, by omega, by go_num, ⟨HK.out.1.drew, HK.out.2.drew⟩, HP.out.drew, HQ.out.drew⟩
        case measure => simp [intOf]; omega
      · obtain rfl : c = L.length := by omega
        as_aux_lemma =>
        have hlt' : ¬ (L.length : Int) < (L.length : Int) := by omega
        clear HP HQ HMA HMR HRD HRR
        go_wp2_with fail
        (with_reducible refine (pickB x4 12 _ (by omega) (by omega)).mono ?_)
        rintro e w' ⟨r, hr, rfl, rfl⟩
        obtain ⟨kk, hkk⟩ : ∃ kk : Int, (r : Int) - 2 = kk := ⟨_, rfl⟩
        obtain ⟨ρ, hρ⟩ : ∃ q, rightB N V = q := ⟨_, rfl⟩
        obtain ⟨β, hβ⟩ : ∃ q, belowB N V M U = q := ⟨_, rfl⟩
        obtain ⟨jn, hjn⟩ : ∃ q, N ||| M = q := ⟨_, rfl⟩
        obtain ⟨jv, hjv⟩ : ∃ q, max V U = q := ⟨_, rfl⟩
        obtain ⟨mn, hmn⟩ : ∃ q, N &&& M = q := ⟨_, rfl⟩
        obtain ⟨mv, hmv⟩ : ∃ q, min V U = q := ⟨_, rfl⟩
        obtain ⟨on, hon⟩ : ∃ q, ofSet kk = q := ⟨_, rfl⟩
        obtain ⟨ov, hov⟩ : ∃ q, min (max x1 0) 3 = q := ⟨_, rfl⟩
        obtain ⟨pn, hpn⟩ : ∃ q, ofSet x4 = q := ⟨_, rfl⟩
        obtain ⟨pv, hpv⟩ : ∃ q, min (max kk 0) 3 = q := ⟨_, rfl⟩
        have C1 := Lib.hid (fun w' => right_v N (N : Int) V ρ w' rfl hρ)
        have C2 := Lib.hid (fun w' => rright_v N V ρ w' hρ)
        have C3 := Lib.hid (fun w' => below_v N M (N : Int) (M : Int) V U w' rfl rfl hN hM β hβ)
        have C4 := Lib.hid (fun w' => rbelow_v N M V U w' hN β hβ)
        have C5 := Lib.hid (fun w' => join_n N M V U w' hN hM jn jv hjn hjv)
        have C6 := Lib.hid (fun w' => rjoin_v N M V U w' hN hM jn jv hjn hjv)
        have C7 := Lib.hid (fun w' => meet_n N M V U w' hN hM mn mv hmn hmv)
        have C8 := Lib.hid (fun w' => rmeet_v N M V U w' hN hM mn mv hmn hmv)
        have C9 := Lib.hid (fun w' => of_n kk x1 on ov w' hon hov)
        have CA := Lib.hid (fun w' => rof_n kk x1 on ov w' hon hov)
        have CB := Lib.hid (fun w' => of_n x4 kk pn pv w' hpn hpv)
        have CC := Lib.hid (fun w' => rof_n x4 kk pn pv w' hpn hpv)
        have HKd := Lib.hid (show LT w ga gb N M V U wr.drew ∧ LT w gc gd n2 n2 v2 v2 wr.drew from ⟨HK.out.1.drew, HK.out.2.drew⟩)
        clear hρ hβ hjn hjv hmn hmv hon hov hpn hpv
        go_wp2_with fail
        clear hkk
        refine wp_region_det (S := fun W => LT w ga gb N M V U W ∧ LT w gc gd n2 n2 v2 v2 W) (by kernel_rfl) HKd.out ?_
        refine det_take (v := ?_) (i := 0) (fuel := 63) (by simp; rfl) (by kernel_rfl) (by kernel_rfl) (by kernel_rfl) (Or.inl ⟨by rfl, fun w' hS => Or.inr ⟨10, #[], w', ?_, ?_⟩⟩) ?_
        rotate_left
        · go_simp
          all_goals with_reducible rfl
        · exact (known8_c w').mono fun e w2 h => ⟨by rw [h.1], ⟨hS.1.below h.2, hS.2.below h.2⟩⟩
        simp only [Act.put, List.setIfInBounds_toArray, List.set_cons_zero, List.set_cons_succ]
        refine det_take (v := ?_) (i := 1) (fuel := 62) (by simp; rfl) (by kernel_rfl) (by kernel_rfl) (by kernel_rfl) (Or.inl ⟨by rfl, fun w' hS => Or.inl ⟨w', ?_, hS⟩⟩) ?_
        rotate_left
        · go_simp
          all_goals with_reducible rfl
        simp only [Act.put, List.setIfInBounds_toArray, List.set_cons_zero, List.set_cons_succ]
        refine det_take (v := ?_) (i := 2) (fuel := 61) (by simp; rfl) (by kernel_rfl) (by kernel_rfl) (by kernel_rfl) (Or.inl ⟨by rfl, fun w' hS => Or.inl ⟨w', ?_, hS⟩⟩) ?_
        rotate_left
        · obtain ⟨⟨c0, c1⟩, ⟨d0, d1⟩⟩ := hS.2.cells
          go_simp
          all_goals with_reducible rfl
        simp only [Act.put, List.setIfInBounds_toArray, List.set_cons_zero, List.set_cons_succ]
        refine det_take (v := ?_) (i := 3) (fuel := 60) (by simp; rfl) (by kernel_rfl) (by kernel_rfl) (by kernel_rfl) (Or.inl ⟨by rfl, fun w' hS => Or.inl ⟨w', ?_, hS⟩⟩) ?_
        rotate_left
        · obtain ⟨⟨c0, c1⟩, ⟨d0, d1⟩⟩ := hS.2.cells
          go_simp
          all_goals with_reducible rfl
        simp only [Act.put, List.setIfInBounds_toArray, List.set_cons_zero, List.set_cons_succ]
        refine det_take (v := ?_) (i := 4) (fuel := 59) (by simp; rfl) (by kernel_rfl) (by kernel_rfl) (by kernel_rfl) (Or.inl ⟨by rfl, fun w' hS => Or.inl ⟨w', ?_, hS⟩⟩) ?_
        rotate_left
        · go_simp
          all_goals with_reducible rfl
        simp only [Act.put, List.setIfInBounds_toArray, List.set_cons_zero, List.set_cons_succ]
        refine det_take (v := ?_) (i := 5) (fuel := 58) (by simp; rfl) (by kernel_rfl) (by kernel_rfl) (by kernel_rfl) (Or.inl ⟨by rfl, fun w' hS => Or.inl ⟨w', ?_, hS⟩⟩) ?_
        rotate_left
        · go_simp
          all_goals with_reducible rfl
        simp only [Act.put, List.setIfInBounds_toArray, List.set_cons_zero, List.set_cons_succ]
        refine det_take (v := ?_) (i := 6) (fuel := 57) (by simp; rfl) (by kernel_rfl) (by kernel_rfl) (by kernel_rfl) (Or.inl ⟨by rfl, fun w' hS => Or.inl ⟨w', ?_, hS⟩⟩) ?_
        rotate_left
        · go_simp
          all_goals with_reducible rfl
        simp only [Act.put, List.setIfInBounds_toArray, List.set_cons_zero, List.set_cons_succ]
        refine det_take (v := ?_) (i := 7) (fuel := 56) (by simp; rfl) (by kernel_rfl) (by kernel_rfl) (by kernel_rfl) (Or.inl ⟨by rfl, fun w' hS => Or.inl ⟨w', ?_, hS⟩⟩) ?_
        rotate_left
        · go_simp
          all_goals with_reducible rfl
        simp only [Act.put, List.setIfInBounds_toArray, List.set_cons_zero, List.set_cons_succ]
        refine det_take (v := ?_) (i := 8) (fuel := 55) (by simp; rfl) (by kernel_rfl) (by kernel_rfl) (by kernel_rfl) (Or.inl ⟨by rfl, fun w' hS => Or.inl ⟨w', ?_, hS⟩⟩) ?_
        rotate_left
        · go_simp
          all_goals with_reducible rfl
        simp only [Act.put, List.setIfInBounds_toArray, List.set_cons_zero, List.set_cons_succ]
        refine det_take (v := ?_) (i := 9) (fuel := 54) (by simp; rfl) (by kernel_rfl) (by kernel_rfl) (by kernel_rfl) (Or.inl ⟨by rfl, fun w' hS => Or.inl ⟨w', ?_, hS⟩⟩) ?_
        rotate_left
        · go_simp
          all_goals with_reducible rfl
        simp only [Act.put, List.setIfInBounds_toArray, List.set_cons_zero, List.set_cons_succ]
        refine det_take (v := ?_) (i := 10) (fuel := 53) (by simp; rfl) (by kernel_rfl) (by kernel_rfl) (by kernel_rfl) (Or.inl ⟨by rfl, fun w' hS => Or.inl ⟨w', ?_, hS⟩⟩) ?_
        rotate_left
        · go_simp
          all_goals with_reducible rfl
        simp only [Act.put, List.setIfInBounds_toArray, List.set_cons_zero, List.set_cons_succ]
        refine det_take (v := ?_) (i := 11) (fuel := 52) (by simp; rfl) (by kernel_rfl) (by kernel_rfl) (by kernel_rfl) (Or.inl ⟨by rfl, fun w' hS => Or.inl ⟨w', ?_, hS⟩⟩) ?_
        rotate_left
        · go_simp
          all_goals with_reducible rfl
        simp only [Act.put, List.setIfInBounds_toArray, List.set_cons_zero, List.set_cons_succ]
        refine det_take (v := ?_) (i := 12) (fuel := 51) (by simp; rfl) (by kernel_rfl) (by kernel_rfl) (by kernel_rfl) (Or.inl ⟨by rfl, fun w' hS => Or.inl ⟨w', ?_, hS⟩⟩) ?_
        rotate_left
        · obtain ⟨⟨a0, a1⟩, ⟨b0, b1⟩⟩ := hS.1.cells
          go_simp
          all_goals with_reducible rfl
        simp only [Act.put, List.setIfInBounds_toArray, List.set_cons_zero, List.set_cons_succ]
        refine det_take (v := ?_) (i := 13) (fuel := 50) (by simp; rfl) (by kernel_rfl) (by kernel_rfl) (by kernel_rfl) (Or.inl ⟨by rfl, fun w' hS => Or.inr ⟨15, #[.agg #[.int .u64 (N : Int), .int .i64 V]], w', ?_, ?_⟩⟩) ?_
        rotate_left
        · go_simp
          all_goals with_reducible rfl
        · exact (C1.out w').mono fun e w2 h => ⟨by rw [h.1], ⟨hS.1.below h.2, hS.2.below h.2⟩⟩
        simp only [Act.put, List.setIfInBounds_toArray, List.set_cons_zero, List.set_cons_succ]
        refine det_take (v := ?_) (i := 14) (fuel := 49) (by simp; rfl) (by kernel_rfl) (by kernel_rfl) (by kernel_rfl) (Or.inl ⟨by rfl, fun w' hS => Or.inl ⟨w', ?_, hS⟩⟩) ?_
        rotate_left
        · obtain ⟨⟨a0, a1⟩, ⟨b0, b1⟩⟩ := hS.1.cells
          go_simp
          all_goals with_reducible rfl
        simp only [Act.put, List.setIfInBounds_toArray, List.set_cons_zero, List.set_cons_succ]
        refine det_take (v := ?_) (i := 15) (fuel := 48) (by simp; rfl) (by kernel_rfl) (by kernel_rfl) (by kernel_rfl) (Or.inl ⟨by rfl, fun w' hS => Or.inr ⟨22, #[.agg #[.int .u64 (N : Int), .int .i64 V]], w', ?_, ?_⟩⟩) ?_
        rotate_left
        · go_simp
          all_goals with_reducible rfl
        · exact (C2.out w').mono fun e w2 h => ⟨by rw [h.1], ⟨hS.1.below h.2, hS.2.below h.2⟩⟩
        simp only [Act.put, List.setIfInBounds_toArray, List.set_cons_zero, List.set_cons_succ]
        refine det_take (v := ?_) (i := 16) (fuel := 47) (by simp; rfl) (by kernel_rfl) (by kernel_rfl) (by kernel_rfl) (Or.inl ⟨by rfl, fun w' hS => Or.inl ⟨w', ?_, hS⟩⟩) ?_
        rotate_left
        · go_simp
          all_goals with_reducible rfl
        simp only [Act.put, List.setIfInBounds_toArray, List.set_cons_zero, List.set_cons_succ]
        refine det_take (v := ?_) (i := 17) (fuel := 46) (by simp; rfl) (by kernel_rfl) (by kernel_rfl) (by kernel_rfl) (Or.inl ⟨by rfl, fun w' hS => Or.inl ⟨w', ?_, hS⟩⟩) ?_
        rotate_left
        · go_simp
          all_goals with_reducible rfl
        simp only [Act.put, List.setIfInBounds_toArray, List.set_cons_zero, List.set_cons_succ]
        refine det_take (v := ?_) (i := 18) (fuel := 45) (by simp; rfl) (by kernel_rfl) (by kernel_rfl) (by kernel_rfl) (Or.inl ⟨by rfl, fun w' hS => Or.inl ⟨w', ?_, hS⟩⟩) ?_
        rotate_left
        · go_simp
          all_goals with_reducible rfl
        simp only [Act.put, List.setIfInBounds_toArray, List.set_cons_zero, List.set_cons_succ]
        refine det_take (v := ?_) (i := 19) (fuel := 44) (by simp; rfl) (by kernel_rfl) (by kernel_rfl) (by kernel_rfl) (Or.inl ⟨by rfl, fun w' hS => Or.inl ⟨w', ?_, hS⟩⟩) ?_
        rotate_left
        · obtain ⟨⟨a0, a1⟩, ⟨b0, b1⟩⟩ := hS.1.cells
          go_simp
          all_goals with_reducible rfl
        simp only [Act.put, List.setIfInBounds_toArray, List.set_cons_zero, List.set_cons_succ]
        refine det_take (v := ?_) (i := 20) (fuel := 43) (by simp; rfl) (by kernel_rfl) (by kernel_rfl) (by kernel_rfl) (Or.inl ⟨by rfl, fun w' hS => Or.inl ⟨w', ?_, hS⟩⟩) ?_
        rotate_left
        · obtain ⟨⟨a0, a1⟩, ⟨b0, b1⟩⟩ := hS.1.cells
          go_simp
          all_goals with_reducible rfl
        simp only [Act.put, List.setIfInBounds_toArray, List.set_cons_zero, List.set_cons_succ]
        refine det_take (v := ?_) (i := 21) (fuel := 42) (by simp; rfl) (by kernel_rfl) (by kernel_rfl) (by kernel_rfl) (Or.inl ⟨by rfl, fun w' hS => Or.inr ⟨13, #[.agg #[.int .u64 (N : Int), .int .i64 V], .agg #[.int .u64 (M : Int), .int .i64 U]], w', ?_, ?_⟩⟩) ?_
        rotate_left
        · go_simp
          all_goals with_reducible rfl
        · exact (C3.out w').mono fun e w2 h => ⟨by rw [h.1], ⟨hS.1.below h.2, hS.2.below h.2⟩⟩
        simp only [Act.put, List.setIfInBounds_toArray, List.set_cons_zero, List.set_cons_succ]
        refine det_take (v := ?_) (i := 22) (fuel := 41) (by simp; rfl) (by kernel_rfl) (by kernel_rfl) (by kernel_rfl) (Or.inl ⟨by rfl, fun w' hS => Or.inl ⟨w', ?_, hS⟩⟩) ?_
        rotate_left
        · obtain ⟨⟨a0, a1⟩, ⟨b0, b1⟩⟩ := hS.1.cells
          go_simp
          all_goals with_reducible rfl
        simp only [Act.put, List.setIfInBounds_toArray, List.set_cons_zero, List.set_cons_succ]
        refine det_take (v := ?_) (i := 23) (fuel := 40) (by simp; rfl) (by kernel_rfl) (by kernel_rfl) (by kernel_rfl) (Or.inl ⟨by rfl, fun w' hS => Or.inl ⟨w', ?_, hS⟩⟩) ?_
        rotate_left
        · obtain ⟨⟨a0, a1⟩, ⟨b0, b1⟩⟩ := hS.1.cells
          go_simp
          all_goals with_reducible rfl
        simp only [Act.put, List.setIfInBounds_toArray, List.set_cons_zero, List.set_cons_succ]
        refine det_take (v := ?_) (i := 24) (fuel := 39) (by simp; rfl) (by kernel_rfl) (by kernel_rfl) (by kernel_rfl) (Or.inl ⟨by rfl, fun w' hS => Or.inr ⟨23, #[.agg #[.int .u64 (N : Int), .int .i64 V], .agg #[.int .u64 (M : Int), .int .i64 U]], w', ?_, ?_⟩⟩) ?_
        rotate_left
        · go_simp
          all_goals with_reducible rfl
        · exact (C4.out w').mono fun e w2 h => ⟨by rw [h.1], ⟨hS.1.below h.2, hS.2.below h.2⟩⟩
        simp only [Act.put, List.setIfInBounds_toArray, List.set_cons_zero, List.set_cons_succ]
        refine det_take (v := ?_) (i := 25) (fuel := 38) (by simp; rfl) (by kernel_rfl) (by kernel_rfl) (by kernel_rfl) (Or.inl ⟨by rfl, fun w' hS => Or.inl ⟨w', ?_, hS⟩⟩) ?_
        rotate_left
        · go_simp
          all_goals with_reducible rfl
        simp only [Act.put, List.setIfInBounds_toArray, List.set_cons_zero, List.set_cons_succ]
        refine det_take (v := ?_) (i := 26) (fuel := 37) (by simp; rfl) (by kernel_rfl) (by kernel_rfl) (by kernel_rfl) (Or.inl ⟨by rfl, fun w' hS => Or.inl ⟨w', ?_, hS⟩⟩) ?_
        rotate_left
        · go_simp
          all_goals with_reducible rfl
        simp only [Act.put, List.setIfInBounds_toArray, List.set_cons_zero, List.set_cons_succ]
        refine det_take (v := ?_) (i := 27) (fuel := 36) (by simp; rfl) (by kernel_rfl) (by kernel_rfl) (by kernel_rfl) (Or.inl ⟨by rfl, fun w' hS => Or.inl ⟨w', ?_, hS⟩⟩) ?_
        rotate_left
        · go_simp
          all_goals with_reducible rfl
        simp only [Act.put, List.setIfInBounds_toArray, List.set_cons_zero, List.set_cons_succ]
        refine det_take (v := ?_) (i := 28) (fuel := 35) (by simp; rfl) (by kernel_rfl) (by kernel_rfl) (by kernel_rfl) (Or.inl ⟨by rfl, fun w' hS => Or.inl ⟨w', ?_, hS⟩⟩) ?_
        rotate_left
        · obtain ⟨⟨a0, a1⟩, ⟨b0, b1⟩⟩ := hS.1.cells
          go_simp
          all_goals with_reducible rfl
        simp only [Act.put, List.setIfInBounds_toArray, List.set_cons_zero, List.set_cons_succ]
        refine det_take (v := ?_) (i := 29) (fuel := 34) (by simp; rfl) (by kernel_rfl) (by kernel_rfl) (by kernel_rfl) (Or.inl ⟨by rfl, fun w' hS => Or.inl ⟨w', ?_, hS⟩⟩) ?_
        rotate_left
        · obtain ⟨⟨a0, a1⟩, ⟨b0, b1⟩⟩ := hS.1.cells
          go_simp
          all_goals with_reducible rfl
        simp only [Act.put, List.setIfInBounds_toArray, List.set_cons_zero, List.set_cons_succ]
        refine det_take (v := ?_) (i := 30) (fuel := 33) (by simp; rfl) (by kernel_rfl) (by kernel_rfl) (by kernel_rfl) (Or.inl ⟨by rfl, fun w' hS => Or.inr ⟨11, #[.agg #[.int .u64 (N : Int), .int .i64 V], .agg #[.int .u64 (M : Int), .int .i64 U]], w', ?_, ?_⟩⟩) ?_
        rotate_left
        · go_simp
          all_goals with_reducible rfl
        · exact (C5.out w').mono fun e w2 h => ⟨by rw [h.1], ⟨hS.1.below h.2, hS.2.below h.2⟩⟩
        simp only [Act.put, List.setIfInBounds_toArray, List.set_cons_zero, List.set_cons_succ]
        refine det_take (v := ?_) (i := 31) (fuel := 32) (by simp; rfl) (by kernel_rfl) (by kernel_rfl) (by kernel_rfl) (Or.inl ⟨by rfl, fun w' hS => Or.inl ⟨w', ?_, hS⟩⟩) ?_
        rotate_left
        · obtain ⟨⟨a0, a1⟩, ⟨b0, b1⟩⟩ := hS.1.cells
          go_simp
          all_goals with_reducible rfl
        simp only [Act.put, List.setIfInBounds_toArray, List.set_cons_zero, List.set_cons_succ]
        refine det_take (v := ?_) (i := 32) (fuel := 31) (by simp; rfl) (by kernel_rfl) (by kernel_rfl) (by kernel_rfl) (Or.inl ⟨by rfl, fun w' hS => Or.inl ⟨w', ?_, hS⟩⟩) ?_
        rotate_left
        · obtain ⟨⟨a0, a1⟩, ⟨b0, b1⟩⟩ := hS.1.cells
          go_simp
          all_goals with_reducible rfl
        simp only [Act.put, List.setIfInBounds_toArray, List.set_cons_zero, List.set_cons_succ]
        refine det_take (v := ?_) (i := 33) (fuel := 30) (by simp; rfl) (by kernel_rfl) (by kernel_rfl) (by kernel_rfl) (Or.inl ⟨by rfl, fun w' hS => Or.inr ⟨24, #[.agg #[.int .u64 (N : Int), .int .i64 V], .agg #[.int .u64 (M : Int), .int .i64 U]], w', ?_, ?_⟩⟩) ?_
        rotate_left
        · go_simp
          all_goals with_reducible rfl
        · exact (C6.out w').mono fun e w2 h => ⟨by rw [h.1], ⟨hS.1.below h.2, hS.2.below h.2⟩⟩
        simp only [Act.put, List.setIfInBounds_toArray, List.set_cons_zero, List.set_cons_succ]
        refine det_take (v := ?_) (i := 34) (fuel := 29) (by simp; rfl) (by kernel_rfl) (by kernel_rfl) (by kernel_rfl) (Or.inl ⟨by rfl, fun w' hS => Or.inl ⟨w', ?_, hS⟩⟩) ?_
        rotate_left
        · go_simp
          all_goals with_reducible rfl
        simp only [Act.put, List.setIfInBounds_toArray, List.set_cons_zero, List.set_cons_succ]
        refine det_take (v := ?_) (i := 35) (fuel := 28) (by simp; rfl) (by kernel_rfl) (by kernel_rfl) (by kernel_rfl) (Or.inl ⟨by rfl, fun w' hS => Or.inl ⟨w', ?_, hS⟩⟩) ?_
        rotate_left
        · go_simp
          all_goals with_reducible rfl
        simp only [Act.put, List.setIfInBounds_toArray, List.set_cons_zero, List.set_cons_succ]
        refine det_take (v := ?_) (i := 36) (fuel := 27) (by simp; rfl) (by kernel_rfl) (by kernel_rfl) (by kernel_rfl) (Or.inl ⟨by rfl, fun w' hS => Or.inl ⟨w', ?_, hS⟩⟩) ?_
        rotate_left
        · go_simp
          all_goals with_reducible rfl
        simp only [Act.put, List.setIfInBounds_toArray, List.set_cons_zero, List.set_cons_succ]
        refine det_take (v := ?_) (i := 37) (fuel := 26) (by simp; rfl) (by kernel_rfl) (by kernel_rfl) (by kernel_rfl) (Or.inl ⟨by rfl, fun w' hS => Or.inl ⟨w', ?_, hS⟩⟩) ?_
        rotate_left
        · obtain ⟨⟨a0, a1⟩, ⟨b0, b1⟩⟩ := hS.1.cells
          go_simp
          all_goals with_reducible rfl
        simp only [Act.put, List.setIfInBounds_toArray, List.set_cons_zero, List.set_cons_succ]
        refine det_take (v := ?_) (i := 38) (fuel := 25) (by simp; rfl) (by kernel_rfl) (by kernel_rfl) (by kernel_rfl) (Or.inl ⟨by rfl, fun w' hS => Or.inl ⟨w', ?_, hS⟩⟩) ?_
        rotate_left
        · obtain ⟨⟨a0, a1⟩, ⟨b0, b1⟩⟩ := hS.1.cells
          go_simp
          all_goals with_reducible rfl
        simp only [Act.put, List.setIfInBounds_toArray, List.set_cons_zero, List.set_cons_succ]
        refine det_take (v := ?_) (i := 39) (fuel := 24) (by simp; rfl) (by kernel_rfl) (by kernel_rfl) (by kernel_rfl) (Or.inl ⟨by rfl, fun w' hS => Or.inr ⟨12, #[.agg #[.int .u64 (N : Int), .int .i64 V], .agg #[.int .u64 (M : Int), .int .i64 U]], w', ?_, ?_⟩⟩) ?_
        rotate_left
        · go_simp
          all_goals with_reducible rfl
        · exact (C7.out w').mono fun e w2 h => ⟨by rw [h.1], ⟨hS.1.below h.2, hS.2.below h.2⟩⟩
        simp only [Act.put, List.setIfInBounds_toArray, List.set_cons_zero, List.set_cons_succ]
        refine det_take (v := ?_) (i := 40) (fuel := 23) (by simp; rfl) (by kernel_rfl) (by kernel_rfl) (by kernel_rfl) (Or.inl ⟨by rfl, fun w' hS => Or.inl ⟨w', ?_, hS⟩⟩) ?_
        rotate_left
        · obtain ⟨⟨a0, a1⟩, ⟨b0, b1⟩⟩ := hS.1.cells
          go_simp
          all_goals with_reducible rfl
        simp only [Act.put, List.setIfInBounds_toArray, List.set_cons_zero, List.set_cons_succ]
        refine det_take (v := ?_) (i := 41) (fuel := 22) (by simp; rfl) (by kernel_rfl) (by kernel_rfl) (by kernel_rfl) (Or.inl ⟨by rfl, fun w' hS => Or.inl ⟨w', ?_, hS⟩⟩) ?_
        rotate_left
        · obtain ⟨⟨a0, a1⟩, ⟨b0, b1⟩⟩ := hS.1.cells
          go_simp
          all_goals with_reducible rfl
        simp only [Act.put, List.setIfInBounds_toArray, List.set_cons_zero, List.set_cons_succ]
        refine det_take (v := ?_) (i := 42) (fuel := 21) (by simp; rfl) (by kernel_rfl) (by kernel_rfl) (by kernel_rfl) (Or.inl ⟨by rfl, fun w' hS => Or.inr ⟨25, #[.agg #[.int .u64 (N : Int), .int .i64 V], .agg #[.int .u64 (M : Int), .int .i64 U]], w', ?_, ?_⟩⟩) ?_
        rotate_left
        · go_simp
          all_goals with_reducible rfl
        · exact (C8.out w').mono fun e w2 h => ⟨by rw [h.1], ⟨hS.1.below h.2, hS.2.below h.2⟩⟩
        simp only [Act.put, List.setIfInBounds_toArray, List.set_cons_zero, List.set_cons_succ]
        refine det_take (v := ?_) (i := 43) (fuel := 20) (by simp; rfl) (by kernel_rfl) (by kernel_rfl) (by kernel_rfl) (Or.inl ⟨by rfl, fun w' hS => Or.inl ⟨w', ?_, hS⟩⟩) ?_
        rotate_left
        · go_simp
          all_goals with_reducible rfl
        simp only [Act.put, List.setIfInBounds_toArray, List.set_cons_zero, List.set_cons_succ]
        refine det_take (v := ?_) (i := 44) (fuel := 19) (by simp; rfl) (by kernel_rfl) (by kernel_rfl) (by kernel_rfl) (Or.inl ⟨by rfl, fun w' hS => Or.inl ⟨w', ?_, hS⟩⟩) ?_
        rotate_left
        · go_simp
          all_goals with_reducible rfl
        simp only [Act.put, List.setIfInBounds_toArray, List.set_cons_zero, List.set_cons_succ]
        refine det_take (v := ?_) (i := 45) (fuel := 18) (by simp; rfl) (by kernel_rfl) (by kernel_rfl) (by kernel_rfl) (Or.inl ⟨by rfl, fun w' hS => Or.inl ⟨w', ?_, hS⟩⟩) ?_
        rotate_left
        · go_simp
          all_goals with_reducible rfl
        simp only [Act.put, List.setIfInBounds_toArray, List.set_cons_zero, List.set_cons_succ]
        refine det_take (v := ?_) (i := 46) (fuel := 17) (by simp; rfl) (by kernel_rfl) (by kernel_rfl) (by kernel_rfl) (Or.inl ⟨by rfl, fun w' hS => Or.inl ⟨w', ?_, hS⟩⟩) ?_
        rotate_left
        · go_simp
          all_goals with_reducible rfl
        simp only [Act.put, List.setIfInBounds_toArray, List.set_cons_zero, List.set_cons_succ]
        refine det_take (v := ?_) (i := 47) (fuel := 16) (by simp; rfl) (by kernel_rfl) (by kernel_rfl) (by kernel_rfl) (Or.inl ⟨by rfl, fun w' hS => Or.inl ⟨w', ?_, hS⟩⟩) ?_
        rotate_left
        · go_simp
          all_goals with_reducible rfl
        simp only [Act.put, List.setIfInBounds_toArray, List.set_cons_zero, List.set_cons_succ]
        refine det_take (v := ?_) (i := 48) (fuel := 15) (by simp; rfl) (by kernel_rfl) (by kernel_rfl) (by kernel_rfl) (Or.inl ⟨by rfl, fun w' hS => Or.inr ⟨14, #[.int .i64 kk, .int .i64 x1], w', ?_, ?_⟩⟩) ?_
        rotate_left
        · go_simp
          all_goals with_reducible rfl
        · exact (C9.out w').mono fun e w2 h => ⟨by rw [h.1], ⟨hS.1.below h.2, hS.2.below h.2⟩⟩
        simp only [Act.put, List.setIfInBounds_toArray, List.set_cons_zero, List.set_cons_succ]
        refine det_take (v := ?_) (i := 49) (fuel := 14) (by simp; rfl) (by kernel_rfl) (by kernel_rfl) (by kernel_rfl) (Or.inl ⟨by rfl, fun w' hS => Or.inl ⟨w', ?_, hS⟩⟩) ?_
        rotate_left
        · go_simp
          all_goals with_reducible rfl
        simp only [Act.put, List.setIfInBounds_toArray, List.set_cons_zero, List.set_cons_succ]
        refine det_take (v := ?_) (i := 50) (fuel := 13) (by simp; rfl) (by kernel_rfl) (by kernel_rfl) (by kernel_rfl) (Or.inl ⟨by rfl, fun w' hS => Or.inl ⟨w', ?_, hS⟩⟩) ?_
        rotate_left
        · go_simp
          all_goals with_reducible rfl
        simp only [Act.put, List.setIfInBounds_toArray, List.set_cons_zero, List.set_cons_succ]
        refine det_take (v := ?_) (i := 51) (fuel := 12) (by simp; rfl) (by kernel_rfl) (by kernel_rfl) (by kernel_rfl) (Or.inl ⟨by rfl, fun w' hS => Or.inr ⟨26, #[.int .i64 kk, .int .i64 x1], w', ?_, ?_⟩⟩) ?_
        rotate_left
        · go_simp
          all_goals with_reducible rfl
        · exact (CA.out w').mono fun e w2 h => ⟨by rw [h.1], ⟨hS.1.below h.2, hS.2.below h.2⟩⟩
        simp only [Act.put, List.setIfInBounds_toArray, List.set_cons_zero, List.set_cons_succ]
        refine det_take (v := ?_) (i := 52) (fuel := 11) (by simp; rfl) (by kernel_rfl) (by kernel_rfl) (by kernel_rfl) (Or.inl ⟨by rfl, fun w' hS => Or.inl ⟨w', ?_, hS⟩⟩) ?_
        rotate_left
        · go_simp
          all_goals with_reducible rfl
        simp only [Act.put, List.setIfInBounds_toArray, List.set_cons_zero, List.set_cons_succ]
        refine det_take (v := ?_) (i := 53) (fuel := 10) (by simp; rfl) (by kernel_rfl) (by kernel_rfl) (by kernel_rfl) (Or.inl ⟨by rfl, fun w' hS => Or.inl ⟨w', ?_, hS⟩⟩) ?_
        rotate_left
        · go_simp
          all_goals with_reducible rfl
        simp only [Act.put, List.setIfInBounds_toArray, List.set_cons_zero, List.set_cons_succ]
        refine det_take (v := ?_) (i := 54) (fuel := 9) (by simp; rfl) (by kernel_rfl) (by kernel_rfl) (by kernel_rfl) (Or.inl ⟨by rfl, fun w' hS => Or.inl ⟨w', ?_, hS⟩⟩) ?_
        rotate_left
        · go_simp
          all_goals with_reducible rfl
        simp only [Act.put, List.setIfInBounds_toArray, List.set_cons_zero, List.set_cons_succ]
        refine det_take (v := ?_) (i := 55) (fuel := 8) (by simp; rfl) (by kernel_rfl) (by kernel_rfl) (by kernel_rfl) (Or.inl ⟨by rfl, fun w' hS => Or.inl ⟨w', ?_, hS⟩⟩) ?_
        rotate_left
        · go_simp
          all_goals with_reducible rfl
        simp only [Act.put, List.setIfInBounds_toArray, List.set_cons_zero, List.set_cons_succ]
        refine det_take (v := ?_) (i := 56) (fuel := 7) (by simp; rfl) (by kernel_rfl) (by kernel_rfl) (by kernel_rfl) (Or.inl ⟨by rfl, fun w' hS => Or.inl ⟨w', ?_, hS⟩⟩) ?_
        rotate_left
        · go_simp
          all_goals with_reducible rfl
        simp only [Act.put, List.setIfInBounds_toArray, List.set_cons_zero, List.set_cons_succ]
        refine det_take (v := ?_) (i := 57) (fuel := 6) (by simp; rfl) (by kernel_rfl) (by kernel_rfl) (by kernel_rfl) (Or.inl ⟨by rfl, fun w' hS => Or.inr ⟨14, #[.int .i64 x4, .int .i64 kk], w', ?_, ?_⟩⟩) ?_
        rotate_left
        · go_simp
          all_goals with_reducible rfl
        · exact (CB.out w').mono fun e w2 h => ⟨by rw [h.1], ⟨hS.1.below h.2, hS.2.below h.2⟩⟩
        simp only [Act.put, List.setIfInBounds_toArray, List.set_cons_zero, List.set_cons_succ]
        refine det_take (v := ?_) (i := 58) (fuel := 5) (by simp; rfl) (by kernel_rfl) (by kernel_rfl) (by kernel_rfl) (Or.inl ⟨by rfl, fun w' hS => Or.inl ⟨w', ?_, hS⟩⟩) ?_
        rotate_left
        · go_simp
          all_goals with_reducible rfl
        simp only [Act.put, List.setIfInBounds_toArray, List.set_cons_zero, List.set_cons_succ]
        refine det_take (v := ?_) (i := 59) (fuel := 4) (by simp; rfl) (by kernel_rfl) (by kernel_rfl) (by kernel_rfl) (Or.inl ⟨by rfl, fun w' hS => Or.inl ⟨w', ?_, hS⟩⟩) ?_
        rotate_left
        · go_simp
          all_goals with_reducible rfl
        simp only [Act.put, List.setIfInBounds_toArray, List.set_cons_zero, List.set_cons_succ]
        refine det_take (v := ?_) (i := 60) (fuel := 3) (by simp; rfl) (by kernel_rfl) (by kernel_rfl) (by kernel_rfl) (Or.inl ⟨by rfl, fun w' hS => Or.inr ⟨26, #[.int .i64 x4, .int .i64 kk], w', ?_, ?_⟩⟩) ?_
        rotate_left
        · go_simp
          all_goals with_reducible rfl
        · exact (CC.out w').mono fun e w2 h => ⟨by rw [h.1], ⟨hS.1.below h.2, hS.2.below h.2⟩⟩
        simp only [Act.put, List.setIfInBounds_toArray, List.set_cons_zero, List.set_cons_succ]
        refine det_take (v := ?_) (i := 61) (fuel := 2) (by simp; rfl) (by kernel_rfl) (by kernel_rfl) (by kernel_rfl) (Or.inl ⟨by rfl, fun w' hS => Or.inl ⟨w', ?_, hS⟩⟩) ?_
        rotate_left
        · go_simp
          all_goals with_reducible rfl
        simp only [Act.put, List.setIfInBounds_toArray, List.set_cons_zero, List.set_cons_succ]
        refine det_take (v := ?_) (i := 62) (fuel := 1) (by simp; rfl) (by kernel_rfl) (by kernel_rfl) (by kernel_rfl) (Or.inl ⟨by rfl, fun w' hS => Or.inl ⟨w', ?_, hS⟩⟩) ?_
        rotate_left
        · go_simp
          all_goals with_reducible rfl
        simp only [Act.put, List.setIfInBounds_toArray, List.set_cons_zero, List.set_cons_succ]
        refine det_take (v := ?_) (i := 63) (fuel := 0) (by simp; rfl) (by kernel_rfl) (by kernel_rfl) (by kernel_rfl) (Or.inl ⟨by rfl, fun w' hS => Or.inl ⟨w', ?_, hS⟩⟩) ?_
        rotate_left
        · go_simp
          all_goals with_reducible rfl
        simp only [Act.put, List.setIfInBounds_toArray, List.set_cons_zero, List.set_cons_succ]
        refine det_done (by kernel_rfl) (fun V hV => ?_) _
        go_wp2
        go_ret
        exact ⟨rfl, hV.1.2.2⟩
end Go.Proofs.Ytpplledoankfgaa

/- Of at any number; Pick; the texts of DecTells. -/
import Derived.Test.YtlhceelkefgjhaaGreatDoorHandA
import Derived.Test.YtlhceelkefgjhaaGreatDoorRefU
import Derived.Test.YtlhceelkefgjhaaGreatDoorTextM
import Derived.Test.YtlhceelkefgjhaaGreatDoorDet
import Derived.IntWalk
import Derived.Deep.QuietTactic
import Derived.BigQuiet
namespace Go.Proofs.YtlhceelkefgjhaaGreatDoor
open Go.RowKit
def pickI (n m : Int) : Int := if n.tmod m < 0 then n.tmod m + m else n.tmod m
theorem pickI_range (n m : Int) (hm : 0 < m) : 0 ≤ pickI n m ∧ pickI n m < m := by
  have h1 : n.tmod m < m := Int.tmod_lt_of_pos n hm
  have h2 : -m < n.tmod m := by
    have := Int.lt_tmod_of_pos n hm
    omega
  unfold pickI
  split <;> omega
set_option maxHeartbeats 400000 in
theorem pick_d (n m r : Int) (w : World) (hm : 0 < m) (hm2 : m ≤ 1000000000000) (hr : pickI n m = r) :
    Calls Tryz.prog 5 #[.int .i64 n, .int .i64 m] w fun e w' => e = .returned (.int .i64 r) ∧ w = w' := by
  have h1 : n.tmod m < m := Int.tmod_lt_of_pos n hm
  have h2 : -m < n.tmod m := by
    have := Int.lt_tmod_of_pos n hm
    omega
  unfold pickI at hr
  obtain ⟨t, ht⟩ : ∃ t, n.tmod m = t := ⟨_, rfl⟩
  rw [ht] at h1 h2 hr
  have hne : (m == 0) = false := by simp; omega
  subst hr
  by_cases hneg : t < 0
  · rw [if_pos hneg]
    go_enter Tryz.func5, Tryz.ntmps5
    go_wp2
    go_ret
    exact ⟨rfl, rfl⟩
  · rw [if_neg hneg]
    go_enter Tryz.func5, Tryz.ntmps5
    go_wp2
    go_ret
    exact ⟨rfl, rfl⟩
def IsStr (v : Value) : Prop := ∃ s : ByteArray, s.size ≤ 281474976710656 ∧ v = .string s
theorem size_l (L : List UInt8) : (⟨L.toArray⟩ : ByteArray).size = L.length := by
  show L.toArray.size = _
  simp
theorem size_2 (L : List UInt8) (hl : L.length ≤ 100) : (⟨#[48, 48]⟩ ++ ⟨L.toArray⟩ : ByteArray).size ≤ 281474976710656 := by
  rw [ByteArray.size_append, size_l]
  show 2 + L.length ≤ _
  omega
theorem size_3 (L : List UInt8) (j : Nat) (x : ByteArray) (hl : L.length ≤ 100) (hx : x.size ≤ 100) : ((⟨L.toArray⟩ : ByteArray).extract 0 j ++ x ++ (⟨L.toArray⟩ : ByteArray).extract j L.length).size ≤ 281474976710656 := by
  rw [ByteArray.size_append, ByteArray.size_append, ByteArray.size_extract, ByteArray.size_extract, size_l]
  omega
theorem tidx (u : Int) (h0 : 0 ≤ u) (h6 : u < 6) : ∃ x : ByteArray, x.size ≤ 100 ∧ ∀ w : World, (Instr.index 59 (.agg #[.string ⟨#[45]⟩, .string ⟨#[46]⟩, .string ⟨#[32]⟩, .string ⟨#[48]⟩, .string ⟨#[97]⟩, .string ⟨#[57, 57, 57, 57, 57, 57, 57, 57, 57, 57, 57, 57, 57, 57, 57, 57, 57, 57, 57, 57]⟩]) (.int .i64 u)).run Tryz.prog w = .ok (.string x) w := by
  rcases (show u = 0 ∨ u = 1 ∨ u = 2 ∨ u = 3 ∨ u = 4 ∨ u = 5 by omega) with rfl | rfl | rfl | rfl | rfl | rfl
  · exact ⟨⟨#[45]⟩, by decide, fun w => by kernel_rfl⟩
  · exact ⟨⟨#[46]⟩, by decide, fun w => by kernel_rfl⟩
  · exact ⟨⟨#[32]⟩, by decide, fun w => by kernel_rfl⟩
  · exact ⟨⟨#[48]⟩, by decide, fun w => by kernel_rfl⟩
  · exact ⟨⟨#[97]⟩, by decide, fun w => by kernel_rfl⟩
  · exact ⟨⟨#[57, 57, 57, 57, 57, 57, 57, 57, 57, 57, 57, 57, 57, 57, 57, 57, 57, 57, 57, 57]⟩, by decide, fun w => by kernel_rfl⟩
theorem printV_len (n : Bool) (a b s : Int) : (printV n a b s).length ≤ 100 := by
  unfold printV
  by_cases hr : RightD n a b s
  · rw [if_pos hr]
    obtain ⟨W, P, e, h1, h2, _, _, h5, _⟩ := print_read n (v2 a b) s hr.1 hr.2.1 hr.2.2.1
    rw [e]
    have := hr.2.2.1
    have hp : P.length ≤ 9 := by omega
    unfold readL
    have := tail_len h2 hp
    split
    · rw [List.length_cons]; omega
    · omega
  · rw [if_neg hr]
    simp
set_option maxRecDepth 100000 in
set_option maxHeartbeats 3200000 in
theorem text_c (n s b : Int) (raw : ByteArray) (w : World) (hn : I64 n) (hb : I64 b) (hraw : raw.size ≤ 281474976710656) :
    Calls Tryz.prog 14 #[.int .i64 n, .int .i64 s, .int .i64 b, .string raw] w (Ret w IsStr) := by
  have hb1 := hb.1
  have hb2 := hb.2
  clear hb
  go_enter Tryz.func14, Tryz.ntmps14
  go_wp2_with fail
  refine (handDec_c n s b _ hn).mono ?_
  rintro e w1 ⟨_, ⟨m, c, d, q, uc, ud, q1, q2, rfl⟩, rfl, hb⟩
  have HB1 := Lib.hid hb
  clear hb
  go_wp2_with fail
  refine (rprint_all m c d q _ uc ud).mono ?_
  rintro e w2 ⟨_, rfl, rfl, hb⟩
  have HB2 := Lib.hid (HB1.out.trans (hb.mono HB1.out.size))
  clear hb HB1
  obtain ⟨L, hL⟩ : ∃ L, printV m c d q = L := ⟨_, rfl⟩
  have hl : L.length ≤ 100 := by rw [← hL]; exact printV_len _ _ _ _
  rw [hL]
  clear hL
  go_wp2_with fail
  refine (pick_c _ 6 _ (by omega) (by omega)).mono ?_
  rintro e w3 ⟨_, ⟨r, ⟨r0, r6⟩, rfl⟩, rfl, rfl⟩
  rcases (show r = 3 ∨ r = 4 ∨ r = 5 ∨ (r ≠ 3 ∧ r ≠ 4 ∧ r ≠ 5) by omega) with rfl | rfl | rfl | ⟨h3, h4, h5⟩
  · have hln : ¬ 9223372036854775807 < 2 + L.length := by omega
    go_wp2
    go_ret
    exact ⟨_, ⟨_, size_2 L hl, rfl⟩, rfl, HB2.out⟩
  · go_wp2_with fail
    refine (pick_c _ ((L.length : Int) + 1) _ (by omega) (by omega)).mono ?_
    rintro e w3 ⟨_, ⟨k, ⟨k0, k1⟩, rfl⟩, rfl, rfl⟩
    obtain ⟨j, rfl⟩ : ∃ j : Nat, k = (j : Int) := ⟨k.toNat, by omega⟩
    have hj : j ≤ L.length := by omega
    have hji : (j : Int) ≤ (L.length : Int) := by omega
    obtain ⟨u, hu⟩ : ∃ u, pickI (b.tdiv 66) 6 = u := ⟨_, rfl⟩
    have hur := pickI_range (b.tdiv 66) 6 (by omega)
    rw [hu] at hur
    obtain ⟨u0, u6⟩ := hur
    have PC := Lib.hid (fun w => pick_d (b.tdiv 66) 6 u w (by omega) (by omega) hu)
    clear hu
    have HBW := Lib.hid HB2.out
    obtain ⟨x, hx, hix⟩ := tidx u u0 u6
    have HIX := Lib.hid hix
    have ew : IntKind.i64.wrap (b.tdiv 66) = b.tdiv 66 := IntWalk.i64_in _ (by have h1 : (b.tdiv 66).natAbs = b.natAbs / 66 := Int.natAbs_tdiv b 66; omega)
    have hc1 : ¬ 9223372036854775807 < j + x.size := by omega
    have hc2 : ¬ 9223372036854775807 < j + x.size + (L.length - j) := by omega
    clear hix
    go_wp2_with fail
    refine wp_region_det (S := fun w' => Below w.heap.size w w') (by kernel_rfl) HBW.out.drew ?_
    refine det_take (v := ?_) (i := 0) (fuel := 13) (by simp; rfl) (by kernel_rfl) (by kernel_rfl) (by kernel_rfl) (Or.inl ⟨by rfl, fun w' hS => Or.inl ⟨w', ?_, hS⟩⟩) ?_
    rotate_left
    · go_simp
      all_goals with_reducible rfl
    simp only [Act.put, List.setIfInBounds_toArray, List.set_cons_zero, List.set_cons_succ]
    refine det_take (v := ?_) (i := 1) (fuel := 12) (by simp; rfl) (by kernel_rfl) (by kernel_rfl) (by kernel_rfl) (Or.inl ⟨by rfl, fun w' hS => Or.inl ⟨w', ?_, hS⟩⟩) ?_
    rotate_left
    · go_simp
      all_goals with_reducible rfl
    simp only [Act.put, List.setIfInBounds_toArray, List.set_cons_zero, List.set_cons_succ]
    refine det_take (v := ?_) (i := 2) (fuel := 11) (by simp; rfl) (by kernel_rfl) (by kernel_rfl) (by kernel_rfl) (Or.inl ⟨by rfl, fun w' hS => Or.inl ⟨w', ?_, hS⟩⟩) ?_
    rotate_left
    · go_simp
      all_goals with_reducible rfl
    simp only [Act.put, List.setIfInBounds_toArray, List.set_cons_zero, List.set_cons_succ]
    refine det_take (v := ?_) (i := 3) (fuel := 10) (by simp; rfl) (by kernel_rfl) (by kernel_rfl) (by kernel_rfl) (Or.inl ⟨by rfl, fun w' hS => Or.inl ⟨w', ?_, hS⟩⟩) ?_
    rotate_left
    · go_simp
      all_goals with_reducible rfl
    simp only [Act.put, List.setIfInBounds_toArray, List.set_cons_zero, List.set_cons_succ]
    refine det_take (v := ?_) (i := 4) (fuel := 9) (by simp; rfl) (by kernel_rfl) (by kernel_rfl) (by kernel_rfl) (Or.inl ⟨by rfl, fun w' hS => Or.inl ⟨w', ?_, hS⟩⟩) ?_
    rotate_left
    · go_simp
      all_goals with_reducible rfl
    simp only [Act.put, List.setIfInBounds_toArray, List.set_cons_zero, List.set_cons_succ]
    refine det_take (v := ?_) (i := 5) (fuel := 8) (by simp; rfl) (by kernel_rfl) (by kernel_rfl) (by kernel_rfl) (Or.inl ⟨by rfl, fun w' hS => Or.inl ⟨w', ?_, hS⟩⟩) ?_
    rotate_left
    · go_simp
      all_goals with_reducible rfl
    simp only [Act.put, List.setIfInBounds_toArray, List.set_cons_zero, List.set_cons_succ]
    refine det_take (v := .int .i64 u) (i := 6) (fuel := 7) (by simp; rfl) (by kernel_rfl) (by kernel_rfl) (by kernel_rfl) (Or.inl ⟨by rfl, fun w' hS => Or.inr ⟨5, #[.int .i64 (b.tdiv 66), .int .i64 6], w', ?_, ?_⟩⟩) ?_
    · go_simp
      all_goals with_reducible rfl
    · exact (PC.out _).mono fun e w2 ⟨he, hw⟩ => ⟨he, hw ▸ hS⟩
    simp only [Act.put, List.setIfInBounds_toArray, List.set_cons_zero, List.set_cons_succ]
    refine det_take (v := ?_) (i := 7) (fuel := 6) (by simp; rfl) (by kernel_rfl) (by kernel_rfl) (by kernel_rfl) (Or.inl ⟨by rfl, fun w' hS => Or.inl ⟨w', ?_, hS⟩⟩) ?_
    rotate_left
    · have hxw := HIX.out w'
      go_simp
      all_goals with_reducible rfl
    simp only [Act.put, List.setIfInBounds_toArray, List.set_cons_zero, List.set_cons_succ]
    refine det_take (v := ?_) (i := 8) (fuel := 5) (by simp; rfl) (by kernel_rfl) (by kernel_rfl) (by kernel_rfl) (Or.inl ⟨by rfl, fun w' hS => Or.inl ⟨w', ?_, hS⟩⟩) ?_
    rotate_left
    · go_simp
      all_goals with_reducible rfl
    simp only [Act.put, List.setIfInBounds_toArray, List.set_cons_zero, List.set_cons_succ]
    refine det_take (v := ?_) (i := 9) (fuel := 4) (by simp; rfl) (by kernel_rfl) (by kernel_rfl) (by kernel_rfl) (Or.inl ⟨by rfl, fun w' hS => Or.inl ⟨w', ?_, hS⟩⟩) ?_
    rotate_left
    · go_simp
      all_goals with_reducible rfl
    simp only [Act.put, List.setIfInBounds_toArray, List.set_cons_zero, List.set_cons_succ]
    refine det_take (v := ?_) (i := 10) (fuel := 3) (by simp; rfl) (by kernel_rfl) (by kernel_rfl) (by kernel_rfl) (Or.inl ⟨by rfl, fun w' hS => Or.inl ⟨w', ?_, hS⟩⟩) ?_
    rotate_left
    · go_simp
      all_goals with_reducible rfl
    simp only [Act.put, List.setIfInBounds_toArray, List.set_cons_zero, List.set_cons_succ]
    refine det_take (v := ?_) (i := 11) (fuel := 2) (by simp; rfl) (by kernel_rfl) (by kernel_rfl) (by kernel_rfl) (Or.inl ⟨by rfl, fun w' hS => Or.inl ⟨w', ?_, hS⟩⟩) ?_
    rotate_left
    · go_simp
      all_goals with_reducible rfl
    simp only [Act.put, List.setIfInBounds_toArray, List.set_cons_zero, List.set_cons_succ]
    refine det_take (v := ?_) (i := 12) (fuel := 1) (by simp; rfl) (by kernel_rfl) (by kernel_rfl) (by kernel_rfl) (Or.inl ⟨by rfl, fun w' hS => Or.inl ⟨w', ?_, hS⟩⟩) ?_
    rotate_left
    · go_simp
      all_goals with_reducible rfl
    simp only [Act.put, List.setIfInBounds_toArray, List.set_cons_zero, List.set_cons_succ]
    refine det_take (v := ?_) (i := 13) (fuel := 0) (by simp; rfl) (by kernel_rfl) (by kernel_rfl) (by kernel_rfl) (Or.inl ⟨by rfl, fun w' hS => Or.inl ⟨w', ?_, hS⟩⟩) ?_
    rotate_left
    · go_simp
      all_goals with_reducible rfl
    simp only [Act.put, List.setIfInBounds_toArray, List.set_cons_zero, List.set_cons_succ]
    refine det_done (by kernel_rfl) (fun w9 h9 => ?_) _
    have HB9 := Lib.hid h9
    clear h9
    go_wp2
    go_ret
    exact ⟨_, ⟨_, size_3 L j x hl hx, rfl⟩, rfl, HB9.out⟩
  · go_wp2
    go_ret
    exact ⟨_, ⟨_, hraw, rfl⟩, rfl, HB2.out⟩
  · have g3 : (r == 3) = false := by simp; omega
    have g4 : (r == 4) = false := by simp; omega
    have g5 : (r == 5) = false := by simp; omega
    go_wp2
    go_ret
    exact ⟨_, ⟨_, by show L.length ≤ _; omega, rfl⟩, rfl, HB2.out⟩
end Go.Proofs.YtlhceelkefgjhaaGreatDoor

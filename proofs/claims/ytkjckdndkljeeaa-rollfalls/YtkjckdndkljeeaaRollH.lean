/- Package roll: wipe. -/
import Derived.Test.YtkjckdndkljeeaaRollG
namespace Go.Proofs.Ytkjckdndkljeeaa
open Go.RowKit
theorem Rl.slab {T E : TypeId} {w w' : World} {B p g c u x y : Nat} {a z : Int} {A : Option Addr} {L : List Rec} (h : Rl T E w B p g a z A c L u) (hg : x ∉ p :: rowOf A) (hd : y ∉ p :: rowOf A) (hb : But [x, y] w w') : Rl T E w' B p g a z A c L u := by
  refine h.but hb ?_ fun j hj => ?_
  · intro hm
    simp only [List.mem_cons, List.not_mem_nil, or_false] at hm hg hd
    rcases hm with rfl | rfl
    · exact hg (.inl rfl)
    · exact hd (.inl rfl)
  · intro hm
    simp only [List.mem_cons, List.not_mem_nil, or_false] at hm
    rcases hm with rfl | rfl
    · exact hg (List.mem_cons_of_mem _ hj)
    · exact hd (List.mem_cons_of_mem _ hj)
theorem write_w {w : World} {g d n : Nat} {s s' : Sst} {β : Bool} (a : Int) (A : Option Addr) (m c : Nat) (b : List UInt8) (K : Int) (hW : wrS s n a b = (s', β)) (h : SlS w g d n s) (hb : Bs w w.heap.size A m c b) (ho : s.Ok n K) (hK : K < 4611686018427387904) (ha : a ≤ 9223372036854775807) :
    Calls Try.prog 20 #[.pointer (some ⟨g, 0, none⟩), .int .i64 a, .slice A m c] w fun e w' => e = .returned (.bool β) ∧ SlS w' g d n s' ∧ But [g, d] w w' := by
  have := write_all a A m c b K h hb ho hK ha
  rw [hW] at this
  exact this
theorem wrS_w {n : Nat} {s s' : Sst} {β : Bool} {K : Int} {a : Int} {b : List UInt8} (hW : wrS s n a b = (s', β)) (h : s.Ok n K) : s'.Ok n (K + 1) := by
  have := wrS_ok h a b
  rw [hW] at this
  exact this
theorem wipeF_step {f : Nat} {s s' : Sst} {n k z q : Nat} {a : Int} {β : Bool} (hk : k < z) (hq : min 32 (z - k) = q) (hW : wrS s n (a + (k : Int)) (List.replicate q 0) = (s', β)) : wipeF (f + 1) s n a k z = if β = true then wipeF f s' n a (k + 32) z else (s', false) := by
  simp only [wipeF, if_pos hk, hq, hW]
theorem wipeF_end {f : Nat} {s : Sst} {n k z : Nat} {a : Int} (hk : ¬ k < z) : wipeF f s n a k z = (s, true) := by
  cases f with
  | zero => rfl
  | succ f => simp only [wipeF, if_neg hk]
theorem row_zeros (w : World) (q : Nat) : Row (w.alloc (.cells (madeCells #[Value.int .u8 0] q) 5)) w.heap.size (List.replicate q 0) := by
  unfold Row
  rw [zeros_made]
  exact Blk.new _ _ _
def WipeRel (w : World) (g d n : Nat) (a : Int) (z u : Nat) (s : Sst) (K : Int) (i : Value) (wr : World) : Prop :=
  ∃ (k f : Nat) (s' : Sst) (J : Int), i = .int .i64 k ∧ k ≤ z + 32 ∧ z ≤ 32 * f + k ∧ SlS wr g d n s' ∧ s'.Ok n J ∧ J + f ≤ K + 257 ∧ wipeF 257 s n a u z = wipeF f s' n a k z ∧ But [g, d] w wr
set_option maxRecDepth 100000 in
set_option maxHeartbeats 3200000 in
theorem wipe_c {B p g d n u z c : Nat} {a : Int} {A : Option Addr} {L : List Rec} {s s' : Sst} {β : Bool} (K : Int) (Ab : Option Addr) (nb cb : Nat) (l : List UInt8) (w : World) (h : RlG w B p g a z A c L u) (hs : SlS w g d n s) (hb : Bs w w.heap.size Ab nb cb l) (ho : s.Ok n K) (hK : K ≤ 1000000000000000000) (hz : z ≤ 8192) (huz : u ≤ z) (ha0 : 0 ≤ a) (ha : a ≤ 1000000)
    (hnb : nb ≤ 281474976710656) (hR : wipeB s n a u z l = (s', β)) :
    Calls Try.prog 31 #[.pointer (some ⟨p, 0, none⟩), .slice Ab nb cb] w fun e w' => e = .returned (.bool β) ∧ SlS w' g d n s' ∧ But [g, d] w w' := by
  have H := Lib.hid h
  have HS := Lib.hid hs
  have HBs := Lib.hid hb
  have HO := Lib.hid ho
  obtain ⟨γ, hγ⟩ : ∃ γ, blankB l = γ := ⟨_, rfl⟩
  have HG := Lib.hid hγ
  have HR := Lib.hid hR
  have HX := Lib.hid (show g ∉ p :: rowOf A ∧ d ∉ p :: rowOf A from ⟨h.far hs.1 (by decide) (by decide), h.far hs.2.1 (by decide) (by decide)⟩)
  clear h hs hb ho hγ hR
  go_enter Try.func31, Try.ntmps31
  go_wp2_with fail
  (with_reducible refine (blank_c Ab nb cb l γ _ HBs.out HG.out hnb).mono ?_)
  rintro e w' ⟨rfl, rfl⟩
  cases γ with
  | true =>
    obtain ⟨rfl, rfl⟩ : s = s' ∧ true = β := by
      have := HR.out
      unfold wipeB at this
      rw [if_pos HG.out] at this
      cases this
      exact ⟨rfl, rfl⟩
    go_wp2
    go_ret
    exact ⟨rfl, HS.out, But.refl _ _⟩
  | false =>
    have HR2 := Lib.hid (show wipeF 257 s n a u z = (s', β) by
      have := HR.out
      unfold wipeB at this
      rwa [if_neg (by rw [HG.out]; decide)] at this)
    obtain ⟨lp, x0, x1, x2, x3, x4⟩ := H.out.cells
    go_wp2
    clear lp x0 x1 x2 x3 x4
    go_loopw [5] (fun i wr => WipeRel w g d n a z u s K i wr) (fun i _ => z + 32 - (intOf i).toNat)
    case atStart => exact ⟨u, 257, s, K, rfl, by omega, by omega, HS.out, HO.out, by omega, rfl, But.refl _ _⟩
    case round =>
      obtain ⟨k, f, s1, J, rfl, hk, hzf, hs1, ho1, hJ, hF, hb1⟩ := hrel
      have HS1 := Lib.hid hs1
      have HO1 := Lib.hid ho1
      have HF := Lib.hid hF
      have HB1 := Lib.hid hb1
      have H1 := Lib.hid (H.out.slab HX.out.1 HX.out.2 hb1)
      clear hs1 ho1 hF hb1
      by_cases hkz : k < z
      · as_aux_lemma =>
        have hkz' : (k : Int) < (z : Int) := by omega
        obtain ⟨q, hq⟩ : ∃ q, min 32 (z - k) = q := ⟨_, rfl⟩
        obtain ⟨s2, γ, hW⟩ : ∃ s2 γ, wrS s1 n (a + (k : Int)) (List.replicate q 0) = (s2, γ) := ⟨_, _, rfl⟩
        obtain ⟨f', rfl⟩ : ∃ f', f = f' + 1 := ⟨f - 1, by omega⟩
        have HF2 := Lib.hid (wipeF_step (f := f') hkz hq hW)
        have HW := Lib.hid hW
        have hq32 : q ≤ 32 := by omega
        have hqz : (q : Int) = min 32 ((z : Int) - (k : Int)) := by omega
        have HQ := Lib.hid hqz
        have hw1 : IntKind.i64.wrap (a + (k : Int)) = a + (k : Int) := by rw [IntKind.wrap_i64]; omega
        have hw2 : IntKind.i64.wrap ((z : Int) - (k : Int)) = (z : Int) - (k : Int) := by rw [IntKind.wrap_i64]; omega
        have HA9 := Lib.hid (show a + (k : Int) ≤ 9223372036854775807 by omega)
        have hmin : (if (z : Int) - (k : Int) < 32 then (z : Int) - (k : Int) else 32) = (q : Int) := by split <;> omega
        clear hq hqz hW
        obtain ⟨lp, x0, x1, x2, x3, x4⟩ := H1.out.cells
        go_upto_region 6 with fail
        clear lp x0 x1 x2 x3 x4
        go_cut [39] (fun v wx => v = .bool (!γ) ∧ SlS wx g d n s2 ∧ But [g, d] w wx)
        case first =>
          as_aux_lemma =>
          have HBd := Lib.hid (show Below wr.heap.size wr wr.drew from (Below.refl _ _).drew)
          refine wp_region_ord (S := fun V => RlG V B p g a z A c L u) (by kernel_rfl) ?_
          refine ord_take (v := ?_) (i := 0) (fuel := 19) (by simp; rfl) (by kernel_rfl) (by kernel_rfl) (by kernel_rfl) (Or.inl ⟨by rfl, fun w' hSw => ?_⟩) H1.out.drew ?_
          rotate_left
          · go_simp
            all_goals with_reducible rfl
          simp only [Act.put, List.setIfInBounds_toArray, List.set_cons_zero, List.set_cons_succ]
          refine ord_take (v := ?_) (i := 1) (fuel := 18) (by simp; rfl) (by kernel_rfl) (by kernel_rfl) (by kernel_rfl) (Or.inl ⟨by rfl, fun w' hSw => ?_⟩) H1.out.drew ?_
          rotate_left
          · go_simp
            all_goals with_reducible rfl
          simp only [Act.put, List.setIfInBounds_toArray, List.set_cons_zero, List.set_cons_succ]
          refine ord_take (v := ?_) (i := 2) (fuel := 17) (by simp; rfl) (by kernel_rfl) (by kernel_rfl) (by kernel_rfl) (Or.inl ⟨by rfl, fun w' hSw => ?_⟩) H1.out.drew ?_
          rotate_left
          · go_simp
            all_goals with_reducible rfl
          simp only [Act.put, List.setIfInBounds_toArray, List.set_cons_zero, List.set_cons_succ]
          refine ord_take (v := ?_) (i := 3) (fuel := 16) (by simp; rfl) (by kernel_rfl) (by kernel_rfl) (by kernel_rfl) (Or.inl ⟨by rfl, fun w' hSw => ?_⟩) H1.out.drew ?_
          rotate_left
          · dsimp only at hSw
            obtain ⟨lp, x0, x1, x2, x3, x4⟩ := hSw.cells
            go_simp
            all_goals with_reducible rfl
          simp only [Act.put, List.setIfInBounds_toArray, List.set_cons_zero, List.set_cons_succ]
          refine ord_take (v := ?_) (i := 4) (fuel := 15) (by simp; rfl) (by kernel_rfl) (by kernel_rfl) (by kernel_rfl) (Or.inl ⟨by rfl, fun w' hSw => ?_⟩) H1.out.drew ?_
          rotate_left
          · go_simp
            all_goals with_reducible rfl
          simp only [Act.put, List.setIfInBounds_toArray, List.set_cons_zero, List.set_cons_succ]
          refine ord_take (v := ?_) (i := 5) (fuel := 14) (by simp; rfl) (by kernel_rfl) (by kernel_rfl) (by kernel_rfl) (Or.inl ⟨by rfl, fun w' hSw => ?_⟩) H1.out.drew ?_
          rotate_left
          · go_simp
            all_goals with_reducible rfl
          simp only [Act.put, List.setIfInBounds_toArray, List.set_cons_zero, List.set_cons_succ]
          refine ord_take (v := ?_) (i := 6) (fuel := 13) (by simp; rfl) (by kernel_rfl) (by kernel_rfl) (by kernel_rfl) (Or.inl ⟨by rfl, fun w' hSw => ?_⟩) H1.out.drew ?_
          rotate_left
          · go_simp
            all_goals with_reducible rfl
          simp only [Act.put, List.setIfInBounds_toArray, List.set_cons_zero, List.set_cons_succ]
          refine ord_take (v := ?_) (i := 7) (fuel := 12) (by simp; rfl) (by kernel_rfl) (by kernel_rfl) (by kernel_rfl) (Or.inl ⟨by rfl, fun w' hSw => ?_⟩) H1.out.drew ?_
          rotate_left
          · dsimp only at hSw
            obtain ⟨lp, x0, x1, x2, x3, x4⟩ := hSw.cells
            go_simp
            all_goals with_reducible rfl
          simp only [Act.put, List.setIfInBounds_toArray, List.set_cons_zero, List.set_cons_succ]
          refine ord_take (v := ?_) (i := 8) (fuel := 11) (by simp; rfl) (by kernel_rfl) (by kernel_rfl) (by kernel_rfl) (Or.inl ⟨by rfl, fun w' hSw => ?_⟩) H1.out.drew ?_
          rotate_left
          · go_simp
            all_goals with_reducible rfl
          simp only [Act.put, List.setIfInBounds_toArray, List.set_cons_zero, List.set_cons_succ]
          refine ord_take (v := ?_) (i := 9) (fuel := 10) (by simp; rfl) (by kernel_rfl) (by kernel_rfl) (by kernel_rfl) (Or.inl ⟨by rfl, fun w' hSw => ?_⟩) H1.out.drew ?_
          rotate_left
          · go_simp
            all_goals with_reducible rfl
          simp only [Act.put, List.setIfInBounds_toArray, List.set_cons_zero, List.set_cons_succ]
          refine ord_take (v := ?_) (i := 10) (fuel := 9) (by simp; rfl) (by kernel_rfl) (by kernel_rfl) (by kernel_rfl) (Or.inl ⟨by rfl, fun w' hSw => ?_⟩) H1.out.drew ?_
          rotate_left
          · go_simp
            all_goals with_reducible rfl
          simp only [Act.put, List.setIfInBounds_toArray, List.set_cons_zero, List.set_cons_succ]
          refine ord_take (v := ?_) (i := 11) (fuel := 8) (by simp; rfl) (by kernel_rfl) (by kernel_rfl) (by kernel_rfl) (Or.inl ⟨by rfl, fun w' hSw => ?_⟩) H1.out.drew ?_
          rotate_left
          · go_simp
            all_goals with_reducible rfl
          simp only [Act.put, List.setIfInBounds_toArray, List.set_cons_zero, List.set_cons_succ]
          refine ord_take (v := ?_) (i := 12) (fuel := 7) (by simp; rfl) (by kernel_rfl) (by kernel_rfl) (by kernel_rfl) (Or.inl ⟨by rfl, fun w' hSw => ?_⟩) H1.out.drew ?_
          rotate_left
          · go_simp
            all_goals with_reducible rfl
          simp only [Act.put, List.setIfInBounds_toArray, List.set_cons_zero, List.set_cons_succ]
          refine ord_take (v := ?_) (i := 13) (fuel := 6) (by simp; rfl) (by kernel_rfl) (by kernel_rfl) (by kernel_rfl) (Or.inl ⟨by rfl, fun w' hSw => ?_⟩) H1.out.drew ?_
          rotate_left
          · dsimp only at hSw
            obtain ⟨lp, x0, x1, x2, x3, x4⟩ := hSw.cells
            go_simp
            all_goals with_reducible rfl
          simp only [Act.put, List.setIfInBounds_toArray, List.set_cons_zero, List.set_cons_succ]
          refine ord_take (v := ?_) (i := 14) (fuel := 5) (by simp; rfl) (by kernel_rfl) (by kernel_rfl) (by kernel_rfl) (Or.inl ⟨by rfl, fun w' hSw => ?_⟩) H1.out.drew ?_
          rotate_left
          · go_simp
            all_goals with_reducible rfl
          simp only [Act.put, List.setIfInBounds_toArray, List.set_cons_zero, List.set_cons_succ]
          refine ord_take (v := ?_) (i := 15) (fuel := 4) (by simp; rfl) (by kernel_rfl) (by kernel_rfl) (by kernel_rfl) (Or.inl ⟨by rfl, fun w' hSw => ?_⟩) H1.out.drew ?_
          rotate_left
          · go_simp
            all_goals with_reducible rfl
          simp only [Act.put, List.setIfInBounds_toArray, List.set_cons_zero, List.set_cons_succ]
          refine ord_take (v := ?_) (i := 16) (fuel := 3) (by simp; rfl) (by kernel_rfl) (by kernel_rfl) (by kernel_rfl) (Or.inl ⟨by rfl, fun w' hSw => ?_⟩) H1.out.drew ?_
          rotate_left
          · go_simp
            all_goals with_reducible rfl
          simp only [Act.put, List.setIfInBounds_toArray, List.set_cons_zero, List.set_cons_succ]
          clear hmin hw1 hw2
          have hmk := run_make_row' (P := Try.prog) 30 5 (.int .u8 0) 1 Try.u42 Try.i8 rfl .i64 .i64 q (by omega) (by omega) wr.drew
          obtain ⟨k1, hk1⟩ : ∃ k1, wr.drew.heap.size = k1 := ⟨_, rfl⟩
          obtain ⟨V1, hV1⟩ : ∃ V, wr.drew.alloc (.cells (madeCells #[Value.int .u8 0] q) 5) = V := ⟨_, rfl⟩
          have hA := (Below.refl wr.drew.heap.size wr.drew).alloc (Nat.le_refl _) (.cells (madeCells #[Value.int .u8 0] q) 5)
          have hZ := row_zeros wr.drew q
          rw [hV1, hk1] at hmk hZ
          rw [hV1] at hA
          have HB1v := Lib.hid (HBd.out.trans (hA.mono HBd.out.size))
          have HZ := Lib.hid (hZ.bs (n := q) (by simp))
          clear hZ hA hV1
          have H1v := Lib.hid (H1.out.below HB1v.out)
          refine ord_only (v := .slice (some ⟨k1, 0, none⟩) q q) (w' := V1) (i := 17) (fuel := 2) (by simp; rfl) (by kernel_rfl) (by rfl) ?_ H1v.out ?_
          · go_simp
            all_goals with_reducible rfl
          simp only [Act.put, List.setIfInBounds_toArray, List.set_cons_zero, List.set_cons_succ]
          clear hmk
          have HSv := Lib.hid (HS1.out.below HB1v.out)
          refine ord_call (f := 20) (args := #[.pointer (some ⟨g, 0, none⟩), .int .i64 (a + (k : Int)), .slice (some ⟨k1, 0, none⟩) q q]) (w1 := V1) (i := 18) (fuel := 1) (by simp; rfl) (by kernel_rfl) (by rfl) ?_ ?_
          · go_simp
            all_goals with_reducible rfl
          (with_reducible refine (write_w (a + (k : Int)) _ q q (List.replicate q 0) J HW.out HSv.out HZ.out HO1.out (by omega) HA9.out).mono ?_)
          rintro e V2 ⟨rfl, hs2, hb2⟩
          have HS2 := Lib.hid hs2
          have H2 := Lib.hid (H1v.out.slab HX.out.1 HX.out.2 hb2)
          have HB2 := Lib.hid (HB1.out.trans ((But.of_below HB1v.out _).trans hb2))
          clear hs2 hb2
          refine ⟨_, rfl, H2.out, ?_⟩
          simp only [Act.put, List.setIfInBounds_toArray, List.set_cons_zero, List.set_cons_succ]
          refine ord_take (v := ?_) (i := 19) (fuel := 0) (by simp; rfl) (by kernel_rfl) (by kernel_rfl) (by kernel_rfl) (Or.inl ⟨by rfl, fun w' hSw => ?_⟩) H2.out ?_
          rotate_left
          · go_simp
            all_goals with_reducible rfl
          simp only [Act.put, List.setIfInBounds_toArray, List.set_cons_zero, List.set_cons_succ]
          refine ord_done (by kernel_rfl) ?_ _
          go_wp2_with fail
          go_meet
          case rel => exact ⟨rfl, HS2.out, HB2.out⟩
        case rest =>
          as_aux_lemma =>
          obtain ⟨rfl, hs2, hb2⟩ := hcut
          obtain ⟨V, rfl⟩ : ∃ V : World, V = wc := ⟨_, rfl⟩
          have HS2 := Lib.hid hs2
          have HB2 := Lib.hid hb2
          have HO2 := Lib.hid (wrS_w HW.out HO1.out)
          clear hs2 hb2 hw1 hw2 hmin
          cases γ with
          | false =>
            obtain ⟨rfl, rfl⟩ : s2 = s' ∧ false = β := by
              have := HR2.out
              rw [HF.out, HF2.out] at this
              simp only [Bool.false_eq_true, if_false] at this
              cases this
              exact ⟨rfl, rfl⟩
            go_wp2
            go_ret
            exact ⟨rfl, HS2.out, HB2.out⟩
          | true =>
            have HF3 := Lib.hid (show wipeF 257 s n a u z = wipeF f' s2 n a (k + 32) z by rw [HF.out, HF2.out]; rfl)
            go_wp2
            go_roundw
            case rel => exact ⟨k + 32, f', s2, J + 1, by go_num, by omega, by omega, HS2.out, HO2.out, by omega, HF3.out, HB2.out⟩
            case measure => simp [intOf]; omega
      · have hkz' : ¬ (k : Int) < (z : Int) := by omega
        obtain ⟨rfl, rfl⟩ : s1 = s' ∧ true = β := by
          have := HR2.out
          rw [HF.out, wipeF_end hkz] at this
          cases this
          exact ⟨rfl, rfl⟩
        obtain ⟨lp, x0, x1, x2, x3, x4⟩ := H1.out.cells
        go_wp2
        go_ret
        exact ⟨rfl, HS1.out, HB1.out⟩
end Go.Proofs.Ytkjckdndkljeeaa

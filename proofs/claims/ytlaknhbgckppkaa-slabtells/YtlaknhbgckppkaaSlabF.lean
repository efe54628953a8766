/- The walk of SlabTorn. -/
import Derived.Test.YtlaknhbgckppkaaSlabE
namespace Go.Proofs.Ytlaknhbgckppkaa
open Go.RowKit
theorem spl_one {l : List UInt8} {p : Nat} (v : UInt8) (h : p < l.length) : spl l p [v] = l.set p v := by
  unfold spl
  rw [List.set_eq_take_append_cons_drop, if_pos h]
  rfl
theorem Row.set_ {w : World} {g : Nat} {l : List UInt8} (h : Row w g l) (p : Nat) {x : Int} {y : Nat} (hy : y < 256) (hx : x = (y : Int)) : Row (w.setCell ⟨g, p, none⟩ (.int .u8 x)) g (l.set p (UInt8.ofNat y)) := by
  have h1 := Blk.set_ h p (.int .u8 x)
  have e : (Lib.byteCells l).toArray.setIfInBounds p (.int .u8 x) = (Lib.byteCells (l.set p (UInt8.ofNat y))).toArray := by
    unfold Lib.byteCells
    rw [List.setIfInBounds_toArray, List.map_set, u8_of y hy, hx]
  rw [e] at h1
  exact h1
theorem Row.cell {w : World} {g : Nat} {l : List UInt8} (h : Row w g l) {p : Nat} (hp : p < l.length) : w.cell? ⟨g, p, none⟩ = some (.int .u8 (l[p].toNat : Int)) := by
  rw [Blk.cell h, List.getElem?_toArray, byteCells_get l p hp]
theorem lit1 {x : Int} {y : Nat} (hy : y < 256) (hx : x = (y : Int)) : #[Value.int .u8 x] = (Lib.byteCells [UInt8.ofNat y]).toArray := by
  unfold Lib.byteCells
  simp only [List.map_cons, List.map_nil]
  rw [u8_of y hy, hx]
def TornRel (w : World) (g d y N K : Nat) (torn : Int) (i : Value) (wr : World) : Prop :=
  ∃ (j : Nat) (l : List UInt8), j ≤ K ∧ i = .int .i64 j ∧ Sl wr g d N l j false true ((K : Int) - (j : Int)) torn ∧ Row wr y l ∧ Below w.heap.size w wr
set_option maxRecDepth 100000 in
set_option maxHeartbeats 3200000 in
theorem slabTorn_c (n k torn at' : Int) (A : Option Addr) (m q : Nat) (lb : List UInt8) (c : Nat) (w : World) (ht : -9223372036854775808 ≤ torn ∧ torn ≤ 9223372036854775807) (hl : Bs w w.heap.size A m q lb) (hq : q ≤ 140737488351232) :
    Calls Try.prog 5 #[.int .i64 n, .int .i64 k, .int .i64 torn, .int .i64 at', .slice A m q, .int .u8 (c : Int)] w fun e w' => e = .returned (.bool true) ∧ Below w.heap.size w w' := by
  have hm : m ≤ 140737488355328 := by have := hl.room; omega
  have HL := Lib.hid hl
  have HT := Lib.hid ht
  clear hl ht
  go_enter Try.func5, Try.ntmps5
  go_wp2_with fail
  (with_reducible refine (pickB n 60 _ (by omega) (by omega)).mono ?_)
  rintro e w' ⟨j0, hj0, rfl, rfl⟩
  go_wp2_with fail
  obtain ⟨N, hN⟩ : ∃ N : Nat, (20 : Int) + (j0 : Int) = (N : Int) := ⟨20 + j0, by omega⟩
  have N0 : (20 : Int) ≤ (N : Int) := by omega
  have N1 : (N : Int) < 80 := by omega
  rw [hN]
  clear hN hj0
  (with_reducible refine (pickB k 9 _ (by omega) (by omega)).mono ?_)
  rintro e w' ⟨K, hK, rfl, rfl⟩
  go_wp2_with fail
  (with_reducible refine (new_e (N : Int) N _ (by omega)).mono ?_)
  rintro e w1 ⟨g, d, rfl, hs, hg, hd, hb⟩
  have HG := Lib.hid hg
  have HD := Lib.hid hd
  have HS1 := Lib.hid hs
  have HB1 := Lib.hid hb
  clear hs hg hd hb
  go_wp2_with fail
  (with_reducible refine (known6_c _).mono ?_)
  rintro e w2 ⟨rfl, hb⟩
  have HS2 := Lib.hid (HS1.out.below hb)
  have HB2 := Lib.hid (bel_tr HB1.out hb)
  clear hb
  have hmk := run_make_row' (P := Try.prog) 26 5 (.int .u8 0) 1 Try.u42 Try.i8 rfl .i64 .i64 N (by omega) (by omega) w2
  have HY3 := Lib.hid (show Row (w2.alloc (.cells (madeCells #[Value.int .u8 0] N) 5)) w2.heap.size (List.replicate N 0) by
    unfold Row
    rw [zeros_made]
    exact Blk.new _ _ _)
  have HS3 := Lib.hid (HS2.out.alloc (.cells (madeCells #[Value.int .u8 0] N) 5))
  have HB3 := Lib.hid (bel_al HB2.out (.cells (madeCells #[Value.int .u8 0] N) 5))
  go_wp2_with fail
  (with_reducible refine (cut_c (K : Int) torn true HS3.out (by simp)).mono ?_)
  rintro e w4 ⟨rfl, hs, ht⟩
  obtain ⟨y, hy⟩ : ∃ y : Nat, w2.heap.size = y := ⟨_, rfl⟩
  have HNY := Lib.hid (show (y ≠ g ∧ y ≠ d) ∧ w.heap.size ≤ y by have := HS2.out.lt; have := HB2.out.size; omega)
  rw [hy] at HY3
  rw [hy]
  have HS4 := Lib.hid hs
  have HY4 := Lib.hid (HY3.out.but ht (not1 HNY.out.1.1))
  have HB4 := Lib.hid (bel_but1 HB3.out ht HB3.out.size HG.out)
  clear hs ht hy hmk HS1 HB1 HS2 HB2 HS3 HB3 HY3
  go_wp2
  go_loopw [15] (fun i wr => TornRel w g d y N K torn i wr) (fun i _ => K - (intOf i).toNat)
  case atStart => exact ⟨0, _, by omega, rfl, by simpa using HS4.out, HY4.out, HB4.out⟩
  case round =>
    obtain ⟨j, l, hj, rfl, hs, hyr, hb⟩ := hrel
    have HS5 := Lib.hid hs
    have HY5 := Lib.hid hyr
    have HB5 := Lib.hid hb
    clear hs hyr hb HS4 HY4 HB4
    by_cases hjk : j < K
    · have hjk' : (j : Int) < (K : Int) := by omega
      go_wp2_with fail
      (with_reducible refine (pickB _ (N : Int) _ (by omega) (by omega)).mono ?_)
      rintro e w' ⟨p, hp, rfl, rfl⟩
      have hz : ((c : Int) + (j : Int)) % 256 = (((c + j) % 256 : Nat) : Int) := by omega
      have HZ := Lib.hid hz
      clear hz
      go_wp2_with fail
      (with_reducible refine (write_less p (p : Int) _ 1 1 [UInt8.ofNat ((c + j) % 256)] (HS5.out.alloc _) (bs_lit wr (cs := #[.int .u8 (((c : Int) + (j : Int)) % 256)]) [UInt8.ofNat ((c + j) % 256)] (lit1 (by omega) HZ.out) rfl) rfl rfl rfl (by omega) (by omega) (by omega) (by omega) (by omega)).mono ?_)
      rintro e w6 ⟨rfl, hs, ht⟩
      have HS6 := Lib.hid hs
      have HY6 := Lib.hid ((HY5.out.alloc _).but ht (not2 HNY.out.1))
      have HB6 := Lib.hid (bel_but (bel_al HB5.out _) ht (by have := HB5.out.size; simp; omega) HG.out HD.out)
      clear hs ht
      have hpl : p < l.length := by have := HS5.out.2.2.1; omega
      have HPL := Lib.hid hpl
      obtain ⟨vY, cY⟩ : ∃ v, w6.cell? ⟨y, p, none⟩ = some v := ⟨_, HY6.out.cell hpl⟩
      have fY := Blk.frozen HY6.out p
      have yl := Blk.lt HY6.out
      have p0 : (0 : Int) ≤ (p : Int) := by omega
      clear hpl
      go_wp2
      go_roundw
      case rel =>
        refine ⟨j + 1, l.set p (UInt8.ofNat ((c + j) % 256)), by omega, by go_num, ?_, HY6.out.set_ p (by omega) HZ.out, HB6.out.setCell (p := ⟨y, p, none⟩) HNY.out.2 _⟩
        have h1 := HS6.out
        rw [spl_one _ HPL.out, show (K : Int) - (j : Int) - 1 = (K : Int) - ((j + 1 : Nat) : Int) by omega, show (j : Int) + 1 = ((j + 1 : Nat) : Int) by omega] at h1
        exact h1.but ((But.refl [y] w6).setCell (p := ⟨y, p, none⟩) (by simp) _) (not1 (fun e => HNY.out.1.1 e.symm)) (not1 (fun e => HNY.out.1.2 e.symm))
      case measure => simp [intOf]; omega
    · have hjk' : ¬ (j : Int) < (K : Int) := by omega
      obtain rfl : j = K := by omega
      have kd12 : min m 12 ≤ 12 := by omega
      obtain ⟨kd, hkd⟩ : ∃ kd : Nat, min m 12 = kd := ⟨_, rfl⟩
      rw [hkd] at kd12
      have HKD := Lib.hid hkd
      obtain ⟨D, hD⟩ : ∃ D : List UInt8, lb.take 12 = D := ⟨_, rfl⟩
      have HDD := Lib.hid hD
      clear hkd hD
      go_wp2_with fail
      (with_reducible refine (few_c A m q lb 12 12 kd _ ((HL.out.below HB5.out).more HB5.out.size) rfl HKD.out hm).mono ?_)
      rintro e w6 ⟨gd, cd, rfl, hO, hb⟩
      rw [HDD.out] at hO
      have HO6 := Lib.hid hO
      have HS6 := Lib.hid (HS5.out.below hb)
      have HY6 := Lib.hid (HY5.out.below hb)
      have HB6 := Lib.hid (bel_tr HB5.out hb)
      have HNG := Lib.hid (show (gd ≠ g ∧ gd ≠ d) ∧ gd ≠ y by have := hO.ge; have := HS5.out.lt; have := Blk.lt HY5.out; omega)
      clear hO hb
      go_wp2_with fail
      (with_reducible refine (pickB at' ((N : Int) - (kd : Int) + 1) _ (by omega) (by omega)).mono ?_)
      rintro e w' ⟨p, hp, rfl, rfl⟩
      obtain ⟨Q, hQ⟩ : ∃ Q : Nat, min (max torn 0) (kd : Int) = (Q : Int) := ⟨(min (max torn 0) (kd : Int)).toNat, by omega⟩
      have HQ := Lib.hid hQ
      clear hQ
      go_wp2_with fail
      (with_reducible refine (write_torn p Q (p : Int) _ kd cd D HS6.out HO6.out.bs rfl rfl rfl (by omega) (by omega) (by omega) (by omega) HQ.out).mono ?_)
      rintro e w7 ⟨rfl, hs, ht⟩
      have HS7 := Lib.hid hs
      have HY7 := Lib.hid (HY6.out.but ht (not2 HNY.out.1))
      have HO7 := Lib.hid (HO6.out.but ht (not2 HNG.out.1))
      have HB7 := Lib.hid (bel_but HB6.out ht HB6.out.size HG.out HD.out)
      clear hs ht
      go_wp2_with fail
      (with_reducible refine (dead_c HS7.out).mono ?_)
      rintro e w' ⟨rfl, rfl⟩
      go_wp2_with fail
      (with_reducible refine (write_noE 0 _ 3 3 (HS7.out.alloc _) (by decide) (by simp [okB])).mono ?_)
      rintro e w8 ⟨rfl, hs, ht⟩
      have HS8 := Lib.hid hs
      have HY8 := Lib.hid ((HY7.out.alloc _).but ht (not2 HNY.out.1))
      have HO8 := Lib.hid ((HO7.out.below ((Below.refl w7.heap.size w7).alloc (Nat.le_refl _) _) HO7.out.lt).but ht (not2 HNG.out.1))
      have HB8 := Lib.hid (bel_but (bel_al HB7.out _) ht (by have := HB7.out.size; simp; omega) HG.out HD.out)
      clear hs ht
      have HNL := Lib.hid (show l.length = N from HS5.out.2.2.1)
      have HDL := Lib.hid (show D.length = kd from HO8.out.len)
      clear HS5 HY5 HB5 HS6 HY6 HO6 HB6 HS7 HY7 HO7 HB7
      have hroom := HO8.out.room
      have p0 : (0 : Int) ≤ (p : Int) := by omega
      have pN : (p : Int) ≤ (N : Int) := by omega
      have q0 : (0 : Int) ≤ (Q : Int) := by omega
      have hqk : (Q : Int) ≤ (kd : Int) := by have := HQ.out; omega
      have qc : (Q : Int) ≤ (cd : Int) := by omega
      obtain ⟨t1, ht1⟩ : ∃ t1 : Int, (if (kd : Int) < torn then (kd : Int) else torn) = t1 := ⟨_, rfl⟩
      have ht2 : (if 0 < t1 then t1 else 0) = (Q : Int) := by have := HQ.out; rw [← ht1]; split <;> split at * <;> omega
      have HQL := Lib.hid (show (D.take Q).length = Q by rw [List.length_take, HDL.out]; omega)
      have HM := Lib.hid (show p + kd ≤ N by omega)
      have HQK := Lib.hid (show Q ≤ kd by omega)
      clear hroom hqk
      go_upto_region 19 with fail
      refine wp_region_ord (S := fun _ => True) (by kernel_rfl) ?_
      by_cases hca : N = p
      all_goals
        have HC := Lib.hid hca
        refine ord_take (v := ?_) (i := 0) (fuel := 10) (by simp; rfl) (by kernel_rfl) (by kernel_rfl) (by kernel_rfl) (Or.inl ⟨by rfl, fun w' hSw => ?_⟩) trivial ?_
        rotate_left
        · go_simp
          all_goals with_reducible rfl
        simp only [Act.put, List.setIfInBounds_toArray, List.set_cons_zero, List.set_cons_succ]
        refine ord_take (v := ?_) (i := 1) (fuel := 9) (by simp; rfl) (by kernel_rfl) (by kernel_rfl) (by kernel_rfl) (Or.inl ⟨by rfl, fun w' hSw => ?_⟩) trivial ?_
        rotate_left
        · go_simp
          all_goals with_reducible rfl
        simp only [Act.put, List.setIfInBounds_toArray, List.set_cons_zero, List.set_cons_succ]
        refine ord_take (v := ?_) (i := 2) (fuel := 8) (by simp; rfl) (by kernel_rfl) (by kernel_rfl) (by kernel_rfl) (Or.inl ⟨by rfl, fun w' hSw => ?_⟩) trivial ?_
        rotate_left
        · go_simp
          all_goals with_reducible rfl
        simp only [Act.put, List.setIfInBounds_toArray, List.set_cons_zero, List.set_cons_succ]
        refine ord_take (v := ?_) (i := 3) (fuel := 7) (by simp; rfl) (by kernel_rfl) (by kernel_rfl) (by kernel_rfl) (Or.inl ⟨by rfl, fun w' hSw => ?_⟩) trivial ?_
        rotate_left
        · go_simp
          all_goals with_reducible rfl
        simp only [Act.put, List.setIfInBounds_toArray, List.set_cons_zero, List.set_cons_succ]
        refine ord_take (v := ?_) (i := 4) (fuel := 6) (by simp; rfl) (by kernel_rfl) (by kernel_rfl) (by kernel_rfl) (Or.inl ⟨by rfl, fun w' hSw => ?_⟩) trivial ?_
        rotate_left
        · go_simp
          all_goals with_reducible rfl
        simp only [Act.put, List.setIfInBounds_toArray, List.set_cons_zero, List.set_cons_succ]
        refine ord_take (v := ?_) (i := 5) (fuel := 5) (by simp; rfl) (by kernel_rfl) (by kernel_rfl) (by kernel_rfl) (Or.inl ⟨by rfl, fun w' hSw => ?_⟩) trivial ?_
        rotate_left
        · go_simp
          all_goals with_reducible rfl
        simp only [Act.put, List.setIfInBounds_toArray, List.set_cons_zero, List.set_cons_succ]
        refine ord_take (v := ?_) (i := 6) (fuel := 4) (by simp; rfl) (by kernel_rfl) (by kernel_rfl) (by kernel_rfl) (Or.inl ⟨by rfl, fun w' hSw => ?_⟩) trivial ?_
        rotate_left
        · go_simp
          all_goals with_reducible rfl
        simp only [Act.put, List.setIfInBounds_toArray, List.set_cons_zero, List.set_cons_succ]
        refine ord_take (v := ?_) (i := 7) (fuel := 3) (by simp; rfl) (by kernel_rfl) (by kernel_rfl) (by kernel_rfl) (Or.inl ⟨by rfl, fun w' hSw => ?_⟩) trivial ?_
        rotate_left
        · go_simp
          all_goals with_reducible rfl
        simp only [Act.put, List.setIfInBounds_toArray, List.set_cons_zero, List.set_cons_succ]
        refine ord_take (v := ?_) (i := 8) (fuel := 2) (by simp; rfl) (by kernel_rfl) (by kernel_rfl) (by kernel_rfl) (Or.inl ⟨by rfl, fun w' hSw => ?_⟩) trivial ?_
        rotate_left
        · go_simp
          all_goals with_reducible rfl
        simp only [Act.put, List.setIfInBounds_toArray, List.set_cons_zero, List.set_cons_succ]
        refine ord_take (v := ?_) (i := 9) (fuel := 1) (by simp; rfl) (by kernel_rfl) (by kernel_rfl) (by kernel_rfl) (Or.inl ⟨by rfl, fun w' hSw => ?_⟩) trivial ?_
        rotate_left
        · go_simp
          all_goals with_reducible rfl
        simp only [Act.put, List.setIfInBounds_toArray, List.set_cons_zero, List.set_cons_succ]
        refine ord_only (v := ?_) (w' := (w8.drew.setRow y (Lib.byteCells (spl l p (D.take Q))).toArray)) (i := 10) (fuel := 0) (by simp; rfl) (by kernel_rfl) (by rfl) ?_ trivial ?_
        rotate_left
        · refine (copyb_run (x := .tmp 92) (y := .tmp 99) (by rfl) (by rfl) (by rfl) (copy_run (w := w8.drew) HY8.out _ _ _ _ _ _ p (D.take Q) _ (by show _ = min _ _; rw [HQL.out]; have := HC.out; have := HM.out; have := HQK.out; omega) (fun h0 => ⟨by first | rfl | (exfalso; rw [HQL.out] at h0; have := HC.out; have := HM.out; have := HQK.out; omega), HO8.out.bs.srcs HQK.out h0⟩) (by rw [HQL.out, HNL.out]; have := HM.out; have := HQK.out; omega))).trans ?_
          with_reducible rfl
        simp only [Act.put, List.setIfInBounds_toArray, List.set_cons_zero, List.set_cons_succ]
        refine ord_done (by kernel_rfl) ?_ _
        have HY9 := Lib.hid (show Row (w8.drew.setRow y (Lib.byteCells (spl l p (D.take Q))).toArray) y (spl l p (D.take Q)) from blk_setRow HY8.out _)
        have ht9 : But [y] w8 (w8.drew.setRow y (Lib.byteCells (spl l p (D.take Q))).toArray) := (But.refl [y] w8).drew.setRow (by simp) _
        have HS9 := Lib.hid (HS8.out.but ht9 (not1 (fun e => HNY.out.1.1 e.symm)) (not1 (fun e => HNY.out.1.2 e.symm)))
        have HB9 := Lib.hid (bel_but1 HB8.out ht9 HB8.out.size HNY.out.2)
        clear ht9
        revert HY9 HS9 HB9
        generalize (w8.drew.setRow y (Lib.byteCells (spl l p (D.take Q))).toArray) = w9
        intro HY9 HS9 HB9
        obtain ⟨E, hE⟩ : ∃ E, spl l p (D.take Q) = E := ⟨_, rfl⟩
        have HEL := Lib.hid (show E.length = N by rw [← hE]; exact HS9.out.2.2.1)
        rw [hE] at HS9 HY9
        clear hE HQ HO8 HS8 HY8 HB8
        replace hca : True := trivial
        go_wp2_with fail
        (with_reducible refine (revive_c HS9.out).mono ?_)
        rintro e w10 ⟨rfl, hs, ht⟩
        have HS10 := Lib.hid hs
        have HY10 := Lib.hid (HY9.out.but ht (not1 HNY.out.1.1))
        have HB10 := Lib.hid (bel_but1 HB9.out ht HB9.out.size HG.out)
        clear hs ht
        go_wp2_with fail
        (with_reducible refine (read_e 0 N 0 (N : Int) E HS10.out rfl rfl rfl (by omega) (by rw [List.drop_zero]; exact List.take_of_length_le (by rw [HEL.out]; exact Nat.le_refl _))).mono ?_)
        rintro e w11 ⟨r, rfl, hr, hrq, hb⟩
        have HS11 := Lib.hid (HS10.out.below hb)
        have HB11 := Lib.hid (bel_tr HB10.out hb)
        have hc1 := str_run (hr.bs HEL.out)
        have hc2 := str_run ((HY10.out.below hb).bs HEL.out)
        clear hr hrq hb
        go_wp2_with fail
        (with_reducible refine (write_free 0 0 _ 1 1 [9] (HS11.out.alloc _) (bs_lit w11 (cs := #[.int .u8 9]) [9] rfl rfl) rfl rfl rfl (by omega) (by omega) (by omega)).mono ?_)
        rintro e w12 ⟨rfl, hs, ht⟩
        rw [show (j : Int) + 1 + 1 = (j : Int) + 2 by omega] at hs
        have HS12 := Lib.hid hs
        have HB12 := Lib.hid (bel_but (bel_al HB11.out _) ht (by have := HB11.out.size; simp; omega) HG.out HD.out)
        clear hs ht hc1 hc2
        go_wp2_with fail
        (with_reducible refine (writes_c HS12.out).mono ?_)
        rintro e w' ⟨rfl, rfl⟩
        go_wp2
        go_ret
        exact ⟨rfl, HB12.out⟩
end Go.Proofs.Ytlaknhbgckppkaa

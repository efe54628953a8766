/- The walk of SlabOwn. -/
import Derived.Test.YtlaknhbgckppkaaSlabF
namespace Go.Proofs.Ytlaknhbgckppkaa
open Go.RowKit
section
variable {w w' : World} {g i : Nat} {v : Value}
theorem cel_below (h : w.cell? ⟨g, i, none⟩ = some v) (hb : Below w.heap.size w w') : w'.cell? ⟨g, i, none⟩ = some v := (hb.cell (World.block_lt_of_cell? w _ h)).trans h
theorem cel_but {ex : List Nat} (h : w.cell? ⟨g, i, none⟩ = some v) (hb : But ex w w') (hx : g ∉ ex) : w'.cell? ⟨g, i, none⟩ = some v := (World.cell?_of_block (w := w) (hb.block g (World.block_lt_of_cell? w _ h) hx)).trans h
end
theorem Own.cell0 {w : World} {B g n c : Nat} {l : List UInt8} (h : Own w B g n c l) {p : Nat} (hp : p < l.length) : w.cell? ⟨g, p, none⟩ = some (.int .u8 (l[p].toNat : Int)) := by
  have := h.2.cells (g := g) rfl p _ (byteCells_get l p hp)
  rwa [Addr.add_lit, Nat.zero_add] at this
theorem rep40 : List.replicate 40 (0 : UInt8) = (List.replicate 40 0).drop 0 := rfl
set_option maxRecDepth 100000 in
set_option maxHeartbeats 3200000 in
theorem slabOwn_c (A : Option Addr) (m q : Nat) (lb : List UInt8) (c : Nat) (w : World) (hl : Bs w w.heap.size A m q lb) (hq : q ≤ 140737488351232) (hc : c < 256) :
    Calls Try.prog 6 #[.slice A m q, .int .u8 (c : Int)] w fun e w' => e = .returned (.bool true) ∧ Below w.heap.size w w' := by
  obtain ⟨i0, hi, hz0, hz1, hz2⟩ := info_parts Try.i8
  have hm : m ≤ 140737488355328 := by have := hl.room; omega
  have HL := Lib.hid hl
  have HCc := Lib.hid (lit1 (x := (c : Int)) hc rfl)
  clear hl hc
  have kd30 : min m 30 ≤ 30 := by omega
  obtain ⟨kd, hkd⟩ : ∃ kd : Nat, min m 30 = kd := ⟨_, rfl⟩
  rw [hkd] at kd30
  have HKD := Lib.hid hkd
  clear hkd
  go_enter Try.func6, Try.ntmps6
  go_wp2_with fail
  (with_reducible refine (few_c A m q lb 30 30 kd _ HL.out rfl HKD.out hm).mono ?_)
  rintro e w1 ⟨gd, cd, rfl, hO, hb⟩
  have HO1 := Lib.hid hO
  have HB1 := Lib.hid hb
  clear hO hb
  have HOa := Lib.hid (HO1.out.below ((Below.refl w1.heap.size w1).alloc (Nat.le_refl _) (.cells #[.int .u8 (c : Int)] 5)) HO1.out.lt)
  have HBa := Lib.hid (bel_al HB1.out (.cells #[.int .u8 (c : Int)] 5))
  have HBs := Lib.hid (bs_lit w1 (cs := #[.int .u8 (c : Int)]) [UInt8.ofNat c] HCc.out rfl)
  go_wp2_with (at_builtin; refine wpList_append_own _ rfl (.tmp 15) (.tmp 17) _ rfl w.heap.size 5 i0 (.int .u8 0) 1 1 Try.u42 hi hz0 hz1 hz2 rfl (by decide) (.slice (some ⟨gd, 0, none⟩) kd cd) kd _ rfl HOa.out.2 ⟨w1.heap.size, 0, none⟩ 1 1 (Lib.byteCells [UInt8.ofNat c]) rfl rfl (HBs.out.news _ rfl) (byteCells_ones _) (by unfold maxLen; omega) (by omega) (by have := HB1.out.size; simp; omega) ?_; intro v2 w2 hown hgrow hnil)
  rw [← Lib.byteCells_append] at hown
  obtain ⟨gD, cD, rfl, hO⟩ := own_ne hown (fun e => by have := hnil.1 e; simp at this)
  have HB2 := Lib.hid (show Below w.heap.size w w2 from HBa.out.grown hgrow (by have := HB1.out.size; simp; omega) (fun k hk => by cases hk; exact HO1.out.ge))
  obtain ⟨D, hD⟩ : ∃ D : List UInt8, lb.take 30 ++ [UInt8.ofNat c] = D := ⟨_, rfl⟩
  rw [hD] at hO
  have HO2 := Lib.hid hO
  clear hown hgrow hnil hO hD HOa HBa HBs HO1 HB1
  obtain ⟨nD, hnD⟩ : ∃ nD : Nat, kd + 1 = nD := ⟨_, rfl⟩
  rw [hnD] at HO2
  try rw [hnD]
  have nDn : 0 < nD := by omega
  have nD0 : (0 : Int) < (nD : Int) := by omega
  have nD1 : (nD : Int) ≤ 31 := by omega
  clear hnD
  have HNY := Lib.hid HO2.out.ge
  have hD0 : 0 < D.length := by rw [HO2.out.len]; omega
  obtain ⟨v0, hv0⟩ : ∃ v0 : Nat, (D[0]'hD0).toNat = v0 := ⟨_, rfl⟩
  have HV0 := Lib.hid (show ∃ h : 0 < D.length, (D[0]'h).toNat = v0 from ⟨hD0, hv0⟩)
  have v256 : v0 < 256 := by rw [← hv0]; exact u8_lt _
  clear hv0 hD0
  go_wp2_with fail
  (with_reducible refine (new_e 40 40 _ (by decide)).mono ?_)
  rintro e w3 ⟨g, d, rfl, hs, hg, hd, hb⟩
  have HG := Lib.hid (show w.heap.size ≤ g by have := HB2.out.size; omega)
  have HD := Lib.hid (show w.heap.size ≤ d by have := HB2.out.size; omega)
  have HNG := Lib.hid (show gD ≠ g ∧ gD ≠ d by have := HO2.out.lt; omega)
  have HS3 := Lib.hid hs
  have HO3 := Lib.hid (HO2.out.below hb HO2.out.lt)
  have HB3 := Lib.hid (bel_tr HB2.out hb)
  clear hs hg hd hb
  go_wp2_with fail
  (with_reducible refine (new_e 40 40 _ (by decide)).mono ?_)
  rintro e w4 ⟨g2, d2, rfl, hs, hg, hd, hb⟩
  have HNT := Lib.hid (apart4 HS3.out.lt.1 HS3.out.lt.2 hg hd)
  have HNG2 := Lib.hid (show gD ≠ g2 ∧ gD ≠ d2 by have := HO3.out.lt; omega)
  have HT4 := Lib.hid hs
  have HS4 := Lib.hid (HS3.out.below hb)
  have HO4 := Lib.hid (HO3.out.below hb HO3.out.lt)
  have HB4 := Lib.hid (bel_tr HB3.out hb)
  clear hs hg hd hb
  go_wp2_with fail
  (with_reducible refine (known6_c _).mono ?_)
  rintro e w5 ⟨rfl, hb⟩
  have HS5 := Lib.hid (HS4.out.below hb)
  have HT5 := Lib.hid (HT4.out.below hb)
  have HO5 := Lib.hid (HO4.out.below hb HO4.out.lt)
  have HB5 := Lib.hid (bel_tr HB4.out hb)
  clear hb HS3 HO2 HB2 HO3 HB3 HS4 HT4 HO4 HB4
  go_wp2_with fail
  (with_reducible refine (write_free 1 1 _ nD cD D HS5.out HO5.out.bs rfl rfl rfl (by omega) (by omega) (by omega)).mono ?_)
  rintro e w6 ⟨rfl, hs, ht⟩
  have HS6 := Lib.hid hs
  have HT6 := Lib.hid (HT5.out.but ht (not2 HNT.out.1) (not2 HNT.out.2.1))
  have HO6 := Lib.hid (HO5.out.but ht (not2 HNG.out))
  have HB6 := Lib.hid (bel_but HB5.out ht HB5.out.size HG.out HD.out)
  clear hs ht HS5 HT5 HO5 HB5
  have cD0 : w6.cell? ⟨gD, 0, none⟩ = some (.int .u8 (v0 : Int)) := by
    obtain ⟨h, e⟩ := HV0.out
    have := HO6.out.cell0 h
    rwa [e] at this
  have fD0 := HO6.out.frozen 0
  have lD := HO6.out.lt
  have HDn := Lib.hid HO6.out.len
  -- d[0] = d[0] + 1
  obtain ⟨w7, hw7⟩ : ∃ w7, w7 = w6.setCell ⟨gD, 0, none⟩ (.int .u8 (((v0 : Int) + 1) % 256)) := ⟨_, rfl⟩
  have ht7 : But [gD] w6 w7 := by rw [hw7]; exact (But.refl [gD] w6).setCell (p := ⟨gD, 0, none⟩) (by simp) _
  have HC7 := Lib.hid (show w7.cell? ⟨gD, 0, none⟩ = some (.int .u8 (((v0 : Int) + 1) % 256)) by rw [hw7, World.cell?_setCell_same _ _ _ cD0])
  have HS7 := Lib.hid (HS6.out.but ht7 (not1 (fun e => HNG.out.1 e.symm)) (not1 (fun e => HNG.out.2 e.symm)))
  have HT7 := Lib.hid (HT6.out.but ht7 (not1 (fun e => HNG2.out.1 e.symm)) (not1 (fun e => HNG2.out.2 e.symm)))
  have HB7 := Lib.hid (bel_but1 HB6.out ht7 HB6.out.size HNY.out)
  have HW7 := Lib.hid hw7
  clear ht7 hw7
  go_wp2_with fail
  rw [← HW7.out]
  clear HW7 cD0 fD0 lD HO6
  (with_reducible refine (read_e 1 nD 1 (nD : Int) D HS7.out rfl rfl rfl (by omega) (by
    have := HDn.out
    unfold spl
    rw [List.drop_left' (by simp), List.take_left' this])).mono ?_)
  rintro e w8 ⟨qx, rfl, hr, hq8, hb⟩
  have HS8 := Lib.hid (HS7.out.below hb)
  have HT8 := Lib.hid (HT7.out.below hb)
  have HC8 := Lib.hid (cel_below HC7.out hb)
  have HNX := Lib.hid (show (qx ≠ g ∧ qx ≠ d) ∧ (qx ≠ g2 ∧ qx ≠ d2) ∧ gD ≠ qx ∧ w.heap.size ≤ qx by
    have := HS7.out.lt
    have := HT7.out.lt
    have := World.block_lt_of_cell? w7 _ HC7.out
    have := HB7.out.size
    simp at *
    omega)
  have HB8 := Lib.hid (bel_tr HB7.out hb)
  have HX8 := Lib.hid (show w8.cell? ⟨qx, 0, none⟩ = some (.int .u8 (v0 : Int)) by
    obtain ⟨h, e⟩ := HV0.out
    have := hr.cell h
    rwa [e] at this)
  have HF8 := Lib.hid (Blk.frozen hr 0)
  clear hr hq8 hb HS7 HT7 HC7 HB7 HS6 HT6 HB6
  have hwr : IntKind.u8.wrap ((v0 : Int) + 1) = ((v0 : Int) + 1) % 256 := by rw [IntKind.wrap_u8]
  go_upto_region 8 with fail
  refine wp_region_ord (S := fun V => V = w8.drew) (by kernel_rfl) ?_
  refine ord_take (v := ?_) (i := 0) (fuel := 14) (by simp; rfl) (by kernel_rfl) (by kernel_rfl) (by kernel_rfl) (Or.inl ⟨by rfl, fun w' hSw => ?_⟩) rfl ?_
  rotate_left
  · go_simp
    all_goals with_reducible rfl
  simp only [Act.put, List.setIfInBounds_toArray, List.set_cons_zero, List.set_cons_succ]
  refine ord_take (v := ?_) (i := 1) (fuel := 13) (by simp; rfl) (by kernel_rfl) (by kernel_rfl) (by kernel_rfl) (Or.inl ⟨by rfl, fun w' hSw => ?_⟩) rfl ?_
  rotate_left
  · go_simp
    all_goals with_reducible rfl
  simp only [Act.put, List.setIfInBounds_toArray, List.set_cons_zero, List.set_cons_succ]
  refine ord_take (v := ?_) (i := 2) (fuel := 12) (by simp; rfl) (by kernel_rfl) (by kernel_rfl) (by kernel_rfl) (Or.inl ⟨by rfl, fun w' hSw => ?_⟩) rfl ?_
  rotate_left
  · go_simp
    all_goals with_reducible rfl
  simp only [Act.put, List.setIfInBounds_toArray, List.set_cons_zero, List.set_cons_succ]
  refine ord_take (v := ?_) (i := 3) (fuel := 11) (by simp; rfl) (by kernel_rfl) (by kernel_rfl) (by kernel_rfl) (Or.inl ⟨by rfl, fun w' hSw => ?_⟩) rfl ?_
  rotate_left
  · go_simp
    all_goals with_reducible rfl
  simp only [Act.put, List.setIfInBounds_toArray, List.set_cons_zero, List.set_cons_succ]
  refine ord_take (v := ?_) (i := 4) (fuel := 10) (by simp; rfl) (by kernel_rfl) (by kernel_rfl) (by kernel_rfl) (Or.inl ⟨by rfl, fun w' hSw => ?_⟩) rfl ?_
  rotate_left
  · go_simp
    all_goals with_reducible rfl
  simp only [Act.put, List.setIfInBounds_toArray, List.set_cons_zero, List.set_cons_succ]
  refine ord_take (v := ?_) (i := 5) (fuel := 9) (by simp; rfl) (by kernel_rfl) (by kernel_rfl) (by kernel_rfl) (Or.inl ⟨by rfl, fun w' hSw => ?_⟩) rfl ?_
  rotate_left
  · go_simp
    all_goals with_reducible rfl
  simp only [Act.put, List.setIfInBounds_toArray, List.set_cons_zero, List.set_cons_succ]
  refine ord_take (v := ?_) (i := 6) (fuel := 8) (by simp; rfl) (by kernel_rfl) (by kernel_rfl) (by kernel_rfl) (Or.inl ⟨by rfl, fun w' hSw => ?_⟩) rfl ?_
  rotate_left
  · go_simp
    all_goals with_reducible rfl
  simp only [Act.put, List.setIfInBounds_toArray, List.set_cons_zero, List.set_cons_succ]
  refine ord_take (v := ?_) (i := 7) (fuel := 7) (by simp; rfl) (by kernel_rfl) (by kernel_rfl) (by kernel_rfl) (Or.inl ⟨by rfl, fun w' hSw => ?_⟩) rfl ?_
  rotate_left
  · go_simp
    all_goals with_reducible rfl
  simp only [Act.put, List.setIfInBounds_toArray, List.set_cons_zero, List.set_cons_succ]
  refine ord_take (v := ?_) (i := 8) (fuel := 6) (by simp; rfl) (by kernel_rfl) (by kernel_rfl) (by kernel_rfl) (Or.inl ⟨by rfl, fun w' hSw => ?_⟩) rfl ?_
  rotate_left
  · dsimp only at hSw
    subst hSw
    have cc : w8.drew.cell? ⟨qx, 0, none⟩ = _ := HX8.out
    go_simp
    all_goals with_reducible rfl
  simp only [Act.put, List.setIfInBounds_toArray, List.set_cons_zero, List.set_cons_succ]
  refine ord_take (v := ?_) (i := 9) (fuel := 5) (by simp; rfl) (by kernel_rfl) (by kernel_rfl) (by kernel_rfl) (Or.inl ⟨by rfl, fun w' hSw => ?_⟩) rfl ?_
  rotate_left
  · go_simp
    all_goals with_reducible rfl
  simp only [Act.put, List.setIfInBounds_toArray, List.set_cons_zero, List.set_cons_succ]
  refine ord_take (v := ?_) (i := 10) (fuel := 4) (by simp; rfl) (by kernel_rfl) (by kernel_rfl) (by kernel_rfl) (Or.inl ⟨by rfl, fun w' hSw => ?_⟩) rfl ?_
  rotate_left
  · go_simp
    all_goals with_reducible rfl
  simp only [Act.put, List.setIfInBounds_toArray, List.set_cons_zero, List.set_cons_succ]
  refine ord_take (v := ?_) (i := 11) (fuel := 3) (by simp; rfl) (by kernel_rfl) (by kernel_rfl) (by kernel_rfl) (Or.inl ⟨by rfl, fun w' hSw => ?_⟩) rfl ?_
  rotate_left
  · go_simp
    all_goals with_reducible rfl
  simp only [Act.put, List.setIfInBounds_toArray, List.set_cons_zero, List.set_cons_succ]
  refine ord_take (v := ?_) (i := 12) (fuel := 2) (by simp; rfl) (by kernel_rfl) (by kernel_rfl) (by kernel_rfl) (Or.inl ⟨by rfl, fun w' hSw => ?_⟩) rfl ?_
  rotate_left
  · dsimp only at hSw
    subst hSw
    have cc : w8.drew.cell? ⟨gD, 0, none⟩ = _ := HC8.out
    go_simp
    all_goals with_reducible rfl
  simp only [Act.put, List.setIfInBounds_toArray, List.set_cons_zero, List.set_cons_succ]
  refine ord_take (v := ?_) (i := 13) (fuel := 1) (by simp; rfl) (by kernel_rfl) (by kernel_rfl) (by kernel_rfl) (Or.inl ⟨by rfl, fun w' hSw => ?_⟩) rfl ?_
  rotate_left
  · go_simp
    all_goals with_reducible rfl
  simp only [Act.put, List.setIfInBounds_toArray, List.set_cons_zero, List.set_cons_succ]
  refine ord_take (v := ?_) (i := 14) (fuel := 0) (by simp; rfl) (by kernel_rfl) (by kernel_rfl) (by kernel_rfl) (Or.inl ⟨by rfl, fun w' hSw => ?_⟩) rfl ?_
  rotate_left
  · go_simp
    all_goals with_reducible rfl
  simp only [Act.put, List.setIfInBounds_toArray, List.set_cons_zero, List.set_cons_succ]
  refine ord_done (by kernel_rfl) ?_ _
  -- x[0] = x[0] + 3
  have cX := show w8.drew.cell? ⟨qx, 0, none⟩ = some (.int .u8 (v0 : Int)) from HX8.out
  have fX := show w8.drew.frozen? ⟨qx, 0, none⟩ = false from HF8.out
  have lX : qx < w8.drew.heap.size := World.block_lt_of_cell? w8 _ HX8.out
  obtain ⟨w9, hw9⟩ : ∃ w9, w9 = (w8.setCell ⟨qx, 0, none⟩ (.int .u8 (((v0 : Int) + 3) % 256))).drew := ⟨_, rfl⟩
  have ht9 : But [qx] w8 w9 := by rw [hw9]; exact ((But.refl [qx] w8).setCell (p := ⟨qx, 0, none⟩) (by simp) _).drew
  have HC9 := Lib.hid (cel_but HC8.out ht9 (not1 HNX.out.2.2.1))
  have HS9 := Lib.hid (HS8.out.but ht9 (not1 (fun e => HNX.out.1.1 e.symm)) (not1 (fun e => HNX.out.1.2 e.symm)))
  have HT9 := Lib.hid (HT8.out.but ht9 (not1 (fun e => HNX.out.2.1.1 e.symm)) (not1 (fun e => HNX.out.2.1.2 e.symm)))
  have HB9 := Lib.hid (bel_but1 HB8.out ht9 HB8.out.size HNX.out.2.2.2)
  have HW9 := Lib.hid hw9
  clear ht9 hw9
  go_wp2_with fail
  rw [← HW9.out]
  clear HW9 cX fX lX HX8 HF8 HC8 HS8 HT8 HB8
  (with_reducible refine (read_e 1 nD 1 (nD : Int) D HS9.out rfl rfl rfl (by omega) (by
    have := HDn.out
    unfold spl
    rw [List.drop_left' (by simp), List.take_left' this])).mono ?_)
  rintro e w10 ⟨qy, rfl, hr, hq8, hb⟩
  have HT10 := Lib.hid (HT9.out.below hb)
  have HC10 := Lib.hid (cel_below HC9.out hb)
  have HB10 := Lib.hid (bel_tr HB9.out hb)
  have HX10 := Lib.hid (show w10.cell? ⟨qy, 0, none⟩ = some (.int .u8 (v0 : Int)) by
    obtain ⟨h, e⟩ := HV0.out
    have := hr.cell h
    rwa [e] at this)
  clear hr hq8 hb
  go_wp2_with fail
  (with_reducible refine (read_e 0 40 0 40 (List.replicate 40 0) HT10.out rfl rfl rfl (by omega) rfl).mono ?_)
  rintro e w11 ⟨qz, rfl, hr, hq8, hb⟩
  have HT11 := Lib.hid (HT10.out.below hb)
  have HC11 := Lib.hid (cel_below HC10.out hb)
  have HX11 := Lib.hid (cel_below HX10.out hb)
  have HB11 := Lib.hid (bel_tr HB10.out hb)
  have HR11 := Lib.hid hr
  clear hr hq8 hb HT10 HC10 HX10 HB10 HC9 HS9 HT9 HB9
  have hmk := run_make_row' (P := Try.prog) 26 5 (.int .u8 0) 1 Try.u42 Try.i8 rfl .i64 .i64 40 (by omega) (by omega) w11.drew
  rw [show ((40 : Nat) : Int) = (40 : Int) from rfl] at hmk
  have HR12 := Lib.hid (show Row (w11.drew.alloc (.cells (madeCells #[Value.int .u8 0] 40) 5)) w11.drew.heap.size (List.replicate 40 0) by
    unfold Row
    rw [zeros_made]
    exact Blk.new _ _ _)
  have HBd := Lib.hid (show Below w11.heap.size w11 w11.drew from (Below.refl _ _).drew)
  have HBe := Lib.hid (show Below w11.heap.size w11 (w11.drew.alloc (.cells (madeCells #[Value.int .u8 0] 40) 5)) from HBd.out.alloc (Nat.le_refl _) _)
  obtain ⟨w12, hw12⟩ : ∃ w12, (w11.drew.alloc (.cells (madeCells #[Value.int .u8 0] 40) 5)) = w12 := ⟨_, rfl⟩
  obtain ⟨qm, hqm⟩ : ∃ qm, w11.drew.heap.size = qm := ⟨_, rfl⟩
  rw [hw12] at hmk HR12 HBe
  rw [hqm] at hmk HR12
  clear hw12 hqm
  go_upto_region 13 with fail
  refine wp_region_ord (S := fun V => Below w11.heap.size w11 V) (by kernel_rfl) ?_
  refine ord_take (v := ?_) (i := 0) (fuel := 30) (by simp; rfl) (by kernel_rfl) (by kernel_rfl) (by kernel_rfl) (Or.inl ⟨by rfl, fun w' hSw => ?_⟩) HBd.out ?_
  rotate_left
  · go_simp
    all_goals with_reducible rfl
  simp only [Act.put, List.setIfInBounds_toArray, List.set_cons_zero, List.set_cons_succ]
  refine ord_take (v := ?_) (i := 1) (fuel := 29) (by simp; rfl) (by kernel_rfl) (by kernel_rfl) (by kernel_rfl) (Or.inl ⟨by rfl, fun w' hSw => ?_⟩) HBd.out ?_
  rotate_left
  · go_simp
    all_goals with_reducible rfl
  simp only [Act.put, List.setIfInBounds_toArray, List.set_cons_zero, List.set_cons_succ]
  refine ord_take (v := ?_) (i := 2) (fuel := 28) (by simp; rfl) (by kernel_rfl) (by kernel_rfl) (by kernel_rfl) (Or.inl ⟨by rfl, fun w' hSw => ?_⟩) HBd.out ?_
  rotate_left
  · go_simp
    all_goals with_reducible rfl
  simp only [Act.put, List.setIfInBounds_toArray, List.set_cons_zero, List.set_cons_succ]
  refine ord_take (v := ?_) (i := 3) (fuel := 27) (by simp; rfl) (by kernel_rfl) (by kernel_rfl) (by kernel_rfl) (Or.inl ⟨by rfl, fun w' hSw => ?_⟩) HBd.out ?_
  rotate_left
  · go_simp
    all_goals with_reducible rfl
  simp only [Act.put, List.setIfInBounds_toArray, List.set_cons_zero, List.set_cons_succ]
  refine ord_take (v := ?_) (i := 4) (fuel := 26) (by simp; rfl) (by kernel_rfl) (by kernel_rfl) (by kernel_rfl) (Or.inl ⟨by rfl, fun w' hSw => ?_⟩) HBd.out ?_
  rotate_left
  · go_simp
    all_goals with_reducible rfl
  simp only [Act.put, List.setIfInBounds_toArray, List.set_cons_zero, List.set_cons_succ]
  refine ord_take (v := ?_) (i := 5) (fuel := 25) (by simp; rfl) (by kernel_rfl) (by kernel_rfl) (by kernel_rfl) (Or.inl ⟨by rfl, fun w' hSw => ?_⟩) HBd.out ?_
  rotate_left
  · go_simp
    all_goals with_reducible rfl
  simp only [Act.put, List.setIfInBounds_toArray, List.set_cons_zero, List.set_cons_succ]
  refine ord_take (v := ?_) (i := 6) (fuel := 24) (by simp; rfl) (by kernel_rfl) (by kernel_rfl) (by kernel_rfl) (Or.inl ⟨by rfl, fun w' hSw => ?_⟩) HBd.out ?_
  rotate_left
  · go_simp
    all_goals with_reducible rfl
  simp only [Act.put, List.setIfInBounds_toArray, List.set_cons_zero, List.set_cons_succ]
  refine ord_take (v := ?_) (i := 7) (fuel := 23) (by simp; rfl) (by kernel_rfl) (by kernel_rfl) (by kernel_rfl) (Or.inl ⟨by rfl, fun w' hSw => ?_⟩) HBd.out ?_
  rotate_left
  · go_simp
    all_goals with_reducible rfl
  simp only [Act.put, List.setIfInBounds_toArray, List.set_cons_zero, List.set_cons_succ]
  refine ord_take (v := ?_) (i := 8) (fuel := 22) (by simp; rfl) (by kernel_rfl) (by kernel_rfl) (by kernel_rfl) (Or.inl ⟨by rfl, fun w' hSw => ?_⟩) HBd.out ?_
  rotate_left
  · dsimp only at hSw
    have cc := cel_below HX11.out hSw
    go_simp
    all_goals with_reducible rfl
  simp only [Act.put, List.setIfInBounds_toArray, List.set_cons_zero, List.set_cons_succ]
  refine ord_take (v := ?_) (i := 9) (fuel := 21) (by simp; rfl) (by kernel_rfl) (by kernel_rfl) (by kernel_rfl) (Or.inl ⟨by rfl, fun w' hSw => ?_⟩) HBd.out ?_
  rotate_left
  · go_simp
    all_goals with_reducible rfl
  simp only [Act.put, List.setIfInBounds_toArray, List.set_cons_zero, List.set_cons_succ]
  refine ord_take (v := ?_) (i := 10) (fuel := 20) (by simp; rfl) (by kernel_rfl) (by kernel_rfl) (by kernel_rfl) (Or.inl ⟨by rfl, fun w' hSw => ?_⟩) HBd.out ?_
  rotate_left
  · go_simp
    all_goals with_reducible rfl
  simp only [Act.put, List.setIfInBounds_toArray, List.set_cons_zero, List.set_cons_succ]
  refine ord_take (v := ?_) (i := 11) (fuel := 19) (by simp; rfl) (by kernel_rfl) (by kernel_rfl) (by kernel_rfl) (Or.inl ⟨by rfl, fun w' hSw => ?_⟩) HBd.out ?_
  rotate_left
  · go_simp
    all_goals with_reducible rfl
  simp only [Act.put, List.setIfInBounds_toArray, List.set_cons_zero, List.set_cons_succ]
  refine ord_take (v := ?_) (i := 12) (fuel := 18) (by simp; rfl) (by kernel_rfl) (by kernel_rfl) (by kernel_rfl) (Or.inl ⟨by rfl, fun w' hSw => ?_⟩) HBd.out ?_
  rotate_left
  · dsimp only at hSw
    have cc := cel_below HC11.out hSw
    go_simp
    all_goals with_reducible rfl
  simp only [Act.put, List.setIfInBounds_toArray, List.set_cons_zero, List.set_cons_succ]
  refine ord_take (v := ?_) (i := 13) (fuel := 17) (by simp; rfl) (by kernel_rfl) (by kernel_rfl) (by kernel_rfl) (Or.inl ⟨by rfl, fun w' hSw => ?_⟩) HBd.out ?_
  rotate_left
  · go_simp
    all_goals with_reducible rfl
  simp only [Act.put, List.setIfInBounds_toArray, List.set_cons_zero, List.set_cons_succ]
  refine ord_take (v := ?_) (i := 14) (fuel := 16) (by simp; rfl) (by kernel_rfl) (by kernel_rfl) (by kernel_rfl) (Or.inl ⟨by rfl, fun w' hSw => ?_⟩) HBd.out ?_
  rotate_left
  · go_simp
    all_goals with_reducible rfl
  simp only [Act.put, List.setIfInBounds_toArray, List.set_cons_zero, List.set_cons_succ]
  refine ord_take (v := ?_) (i := 15) (fuel := 15) (by simp; rfl) (by kernel_rfl) (by kernel_rfl) (by kernel_rfl) (Or.inl ⟨by rfl, fun w' hSw => ?_⟩) HBd.out ?_
  rotate_left
  · go_simp
    all_goals with_reducible rfl
  simp only [Act.put, List.setIfInBounds_toArray, List.set_cons_zero, List.set_cons_succ]
  refine ord_take (v := ?_) (i := 16) (fuel := 14) (by simp; rfl) (by kernel_rfl) (by kernel_rfl) (by kernel_rfl) (Or.inl ⟨by rfl, fun w' hSw => ?_⟩) HBd.out ?_
  rotate_left
  · go_simp
    all_goals with_reducible rfl
  simp only [Act.put, List.setIfInBounds_toArray, List.set_cons_zero, List.set_cons_succ]
  refine ord_take (v := ?_) (i := 17) (fuel := 13) (by simp; rfl) (by kernel_rfl) (by kernel_rfl) (by kernel_rfl) (Or.inl ⟨by rfl, fun w' hSw => ?_⟩) HBd.out ?_
  rotate_left
  · go_simp
    all_goals with_reducible rfl
  simp only [Act.put, List.setIfInBounds_toArray, List.set_cons_zero, List.set_cons_succ]
  refine ord_take (v := ?_) (i := 18) (fuel := 12) (by simp; rfl) (by kernel_rfl) (by kernel_rfl) (by kernel_rfl) (Or.inl ⟨by rfl, fun w' hSw => ?_⟩) HBd.out ?_
  rotate_left
  · go_simp
    all_goals with_reducible rfl
  simp only [Act.put, List.setIfInBounds_toArray, List.set_cons_zero, List.set_cons_succ]
  refine ord_take (v := ?_) (i := 19) (fuel := 11) (by simp; rfl) (by kernel_rfl) (by kernel_rfl) (by kernel_rfl) (Or.inl ⟨by rfl, fun w' hSw => ?_⟩) HBd.out ?_
  rotate_left
  · go_simp
    all_goals with_reducible rfl
  simp only [Act.put, List.setIfInBounds_toArray, List.set_cons_zero, List.set_cons_succ]
  refine ord_take (v := ?_) (i := 20) (fuel := 10) (by simp; rfl) (by kernel_rfl) (by kernel_rfl) (by kernel_rfl) (Or.inl ⟨by rfl, fun w' hSw => ?_⟩) HBd.out ?_
  rotate_left
  · dsimp only at hSw
    have cc := str_run ((HR11.out.below hSw).bs (n := 40) (by simp))
    go_simp
    all_goals with_reducible rfl
  simp only [Act.put, List.setIfInBounds_toArray, List.set_cons_zero, List.set_cons_succ]
  refine ord_only (v := ?_) (w' := w12) (i := 21) (fuel := 9) (by simp; rfl) (by kernel_rfl) (by rfl) ?_ HBe.out ?_
  rotate_left
  · have hmk2 := hmk
    go_simp
    all_goals with_reducible rfl
  simp only [Act.put, List.setIfInBounds_toArray, List.set_cons_zero, List.set_cons_succ]
  refine ord_only (v := ?_) (w' := w12) (i := 22) (fuel := 8) (by simp; rfl) (by kernel_rfl) (by rfl) ?_ HBe.out ?_
  rotate_left
  · have cc := str_run (HR12.out.bs (n := 40) (by simp))
    go_simp
    all_goals with_reducible rfl
  simp only [Act.put, List.setIfInBounds_toArray, List.set_cons_zero, List.set_cons_succ]
  refine ord_take (v := ?_) (i := 23) (fuel := 7) (by simp; rfl) (by kernel_rfl) (by kernel_rfl) (by kernel_rfl) (Or.inl ⟨by rfl, fun w' hSw => ?_⟩) HBe.out ?_
  rotate_left
  · go_simp
    all_goals with_reducible rfl
  simp only [Act.put, List.setIfInBounds_toArray, List.set_cons_zero, List.set_cons_succ]
  refine ord_take (v := ?_) (i := 24) (fuel := 6) (by simp; rfl) (by kernel_rfl) (by kernel_rfl) (by kernel_rfl) (Or.inl ⟨by rfl, fun w' hSw => ?_⟩) HBe.out ?_
  rotate_left
  · go_simp
    all_goals with_reducible rfl
  simp only [Act.put, List.setIfInBounds_toArray, List.set_cons_zero, List.set_cons_succ]
  refine ord_take (v := ?_) (i := 25) (fuel := 5) (by simp; rfl) (by kernel_rfl) (by kernel_rfl) (by kernel_rfl) (Or.inl ⟨by rfl, fun w' hSw => ?_⟩) HBe.out ?_
  rotate_left
  · go_simp
    all_goals with_reducible rfl
  simp only [Act.put, List.setIfInBounds_toArray, List.set_cons_zero, List.set_cons_succ]
  refine ord_take (v := ?_) (i := 26) (fuel := 4) (by simp; rfl) (by kernel_rfl) (by kernel_rfl) (by kernel_rfl) (Or.inl ⟨by rfl, fun w' hSw => ?_⟩) HBe.out ?_
  rotate_left
  · go_simp
    all_goals with_reducible rfl
  simp only [Act.put, List.setIfInBounds_toArray, List.set_cons_zero, List.set_cons_succ]
  refine ord_call (f := 14) (args := #[.pointer (some ⟨g2, 0, none⟩)]) (w1 := w12) (i := 27) (fuel := 3) (by simp; rfl) (by kernel_rfl) (by rfl) ?_ ?_
  · go_simp
    all_goals with_reducible rfl
  refine (writes_c (HT11.out.below HBe.out)).mono ?_
  rintro e w' ⟨rfl, rfl⟩
  refine ⟨_, rfl, HBe.out, ?_⟩
  simp only [Act.put, List.setIfInBounds_toArray, List.set_cons_zero, List.set_cons_succ]
  refine ord_take (v := ?_) (i := 28) (fuel := 2) (by simp; rfl) (by kernel_rfl) (by kernel_rfl) (by kernel_rfl) (Or.inl ⟨by rfl, fun w' hSw => ?_⟩) HBe.out ?_
  rotate_left
  · go_simp
    all_goals with_reducible rfl
  simp only [Act.put, List.setIfInBounds_toArray, List.set_cons_zero, List.set_cons_succ]
  refine ord_take (v := ?_) (i := 29) (fuel := 1) (by simp; rfl) (by kernel_rfl) (by kernel_rfl) (by kernel_rfl) (Or.inl ⟨by rfl, fun w' hSw => ?_⟩) HBe.out ?_
  rotate_left
  · go_simp
    all_goals with_reducible rfl
  simp only [Act.put, List.setIfInBounds_toArray, List.set_cons_zero, List.set_cons_succ]
  refine ord_take (v := ?_) (i := 30) (fuel := 0) (by simp; rfl) (by kernel_rfl) (by kernel_rfl) (by kernel_rfl) (Or.inl ⟨by rfl, fun w' hSw => ?_⟩) HBe.out ?_
  rotate_left
  · go_simp
    all_goals with_reducible rfl
  simp only [Act.put, List.setIfInBounds_toArray, List.set_cons_zero, List.set_cons_succ]
  refine ord_done (by kernel_rfl) ?_ _
  go_wp2
  go_ret
  exact ⟨rfl, bel_tr HB11.out HBe.out⟩
end Go.Proofs.Ytlaknhbgckppkaa

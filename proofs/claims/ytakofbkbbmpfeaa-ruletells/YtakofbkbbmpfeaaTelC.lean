/- RuleTells: what each call answers, of any policy. -/
import Derived.Test.YtakofbkbbmpfeaaTelB
import Derived.Test.YtakofbkbbmpfeaaPolI
import Derived.Test.YtakofbkbbmpfeaaRulE
import Derived.Test.YtakofbkbbmpfeaaTelA
import Derived.Test.YtakofbkbbmpfeaaRulH
import Derived.Test.YtakofbkbbmpfeaaRulJ
import Derived.Test.YtakofbkbbmpfeaaDet
namespace Go.Proofs.Ytakofbkbbmpfeaa
open Go.RowKit
set_option maxRecDepth 100000 in
set_option maxHeartbeats 25600000 in
theorem ruleTells_c (A0 : Option Addr) (n0 c0 : Nat) (xs : List Int) (a1 a2 a3 a4 a5 a6 a7 a8 : Int) (w : World) (hL : IL w w.heap.size A0 n0 c0 xs) (hn0 : n0 ≤ 9223372036854775807) (hby : I64 a2) :
    Calls Try.prog 3 #[.slice A0 n0 c0, .int .i64 a1, .int .i64 a2, .int .i64 a3, .int .i64 a4, .int .i64 a5, .int .i64 a6, .int .i64 a7, .int .i64 a8] w (RetB w true) := by
  have HPO := Lib.hid (bent_c A0 n0 c0 xs a1 a2 w hL hn0 hby)
  have HKN := Lib.hid (fun V : World => known_c V)
  clear hL hby
  go_enter Try.func3, Try.ntmps3
  go_wp2_with fail
  (with_reducible refine HPO.out.mono ?_)
  rintro e w1 ⟨s, P, rfl, hrd, hwd, hb⟩
  obtain ⟨ne, hne⟩ : ∃ n, P.ents.length = n := ⟨_, rfl⟩
  obtain ⟨ng, hng⟩ : ∃ n, P.grp.length = n := ⟨_, rfl⟩
  obtain ⟨nh, hnh⟩ : ∃ n, P.who.length = n := ⟨_, rfl⟩
  obtain ⟨nu, hnu⟩ : ∃ n, P.up.length = n := ⟨_, rfl⟩
  obtain ⟨nr, hnr⟩ : ∃ n, P.rules.length = n := ⟨_, rfl⟩
  rw [hne, hng, hnh, hnu, hnr]
  have HRD := Lib.hid hrd
  have HB1 := Lib.hid hb
  have HWD := Lib.hid hwd
  have HNE := Lib.hid hne
  have HNG := Lib.hid hng
  have HNH := Lib.hid hnh
  have HNU := Lib.hid hnu
  have HNR := Lib.hid hnr
  clear hrd hb hwd hne hng hnh hnu hnr HPO
  obtain ⟨gp, hgp⟩ : ∃ x, w1.heap.size = x := ⟨_, rfl⟩
  obtain ⟨W2, hW2⟩ : ∃ V, w1.alloc (.cells #[.slice s.Ae ne s.ce, .slice s.Ag ng s.cg, .slice s.Ah nh s.ch, .slice s.Au nu s.cu, .slice s.Ar nr s.cr] 28) = V := ⟨_, rfl⟩
  have HP2 := Lib.hid (show PolBl W2 gp s ne ng nh nu nr from by rw [← hW2, ← hgp]; exact Blk.new _ _ _)
  have HX2 := Lib.hid (show Below w1.heap.size w1 W2 from by rw [← hW2]; exact bel_alloc (Below.refl _ _) _)
  have HW2 := Lib.hid hW2
  have HGP := Lib.hid hgp
  clear hW2 hgp
  go_upto_region 2 with fail
  rw [HGP.out, HW2.out]
  clear HW2 HGP
  go_wp2_with fail
  (with_reducible refine (pickB a3 7 _ (by omega) (by omega)).mono ?_)
  rintro e w' ⟨k3, hk3, rfl, rfl⟩
  go_wp2_with fail
  (with_reducible refine (pickB a4 6 _ (by omega) (by omega)).mono ?_)
  rintro e w' ⟨k4, hk4, rfl, rfl⟩
  go_wp2_with fail
  (with_reducible refine (pickB a5 7 _ (by omega) (by omega)).mono ?_)
  rintro e w' ⟨k5, hk5, rfl, rfl⟩
  go_wp2_with fail
  (with_reducible refine (pickB a6 36 _ (by omega) (by omega)).mono ?_)
  rintro e w' ⟨k6, hk6, rfl, rfl⟩
  go_upto_region 6 with fail
  obtain ⟨xw, hxw⟩ : ∃ v, (k3 : Int) - 1 = v := ⟨_, rfl⟩
  rw [hxw]
  obtain ⟨xv, hxv⟩ : ∃ v, (k4 : Int) - 1 = v := ⟨_, rfl⟩
  rw [hxv]
  obtain ⟨xe, hxe⟩ : ∃ v, (k5 : Int) - 1 = v := ⟨_, rfl⟩
  rw [hxe]
  obtain ⟨xk, hxk⟩ : ∃ v, (k6 : Int) - 2 = v := ⟨_, rfl⟩
  rw [hxk]
  clear hxw hxv hxe hxk hk3 hk4 hk5 hk6
  go_wp2_with fail
  (with_reducible refine (handLab_c a7 a8 _).mono ?_)
  rintro e w3 ⟨la, lu, hla, rfl, hb3⟩
  obtain ⟨gx, hgx⟩ : ∃ g, w3.heap.size = g := ⟨_, rfl⟩
  obtain ⟨W4, hW4⟩ : ∃ V, w3.alloc (.cells #[.int .u64 (la : Int), .int .i64 lu] 33) = V := ⟨_, rfl⟩
  have HL4 := Lib.hid (show Blk W4 gx 33 #[.int .u64 (la : Int), .int .i64 lu] from by rw [← hW4, ← hgx]; exact Blk.new _ _ _)
  have HP4 := Lib.hid (show PolBl W4 gp s ne ng nh nu nr from by rw [← hW4]; exact Blk.alloc (Blk.below HP2.out hb3 (Blk.lt HP2.out)) _)
  have HX4 := Lib.hid (show Below w1.heap.size w1 W4 from by rw [← hW4]; exact bel_alloc (HX2.out.trans (hb3.mono HX2.out.size)) _)
  have HW4 := Lib.hid hW4
  have HGX := Lib.hid hgx
  clear hW4 hgx hb3
  go_upto_region 7 with fail
  rw [HGX.out, HW4.out]
  clear HW4 HGX HP2 HX2
  obtain ⟨β, hβ⟩ : ∃ β : Bool, β = true ↔ RightPol P := by
    by_cases h : RightPol P
    · exact ⟨true, by simp [h]⟩
    · exact ⟨false, by simp [h]⟩
  have HBT := Lib.hid hβ
  clear hβ
  obtain ⟨q1, hq1⟩ : ∃ q, mayB β P xw xv xe = q := ⟨_, rfl⟩
  obtain ⟨n1, v1, hl1⟩ : ∃ n v, entLab β P xe = (n, v) := ⟨_, _, rfl⟩
  obtain ⟨n2, v2, hl2⟩ : ∃ n v, grpLab β P xe = (n, v) := ⟨_, _, rfl⟩
  obtain ⟨q2, hq2⟩ : ∃ q, seesB β P xw la lu = q := ⟨_, rfl⟩
  obtain ⟨q3, hq3⟩ : ∃ q, relB β P xw xk = q := ⟨_, rfl⟩
  have HA0 := Lib.hid (fun (V : World) (hb : Below w1.heap.size w1 V) => show Calls Try.prog 8 #[.agg #[.slice s.Ae ne s.ce, .slice s.Ag ng s.cg, .slice s.Ah nh s.ch, .slice s.Au nu s.cu, .slice s.Ar nr s.cr]] V (RetB V β) from ruRight_c s P V ne ng nh nu nr ((HRD.out.below hb).more hb.size) HWD.out HNE.out HNG.out HNH.out HNU.out HNR.out β HBT.out)
  have HB0 := Lib.hid (fun (V : World) (hb : Below w1.heap.size w1 V) => show Calls Try.prog 9 #[.agg #[.slice s.Ae ne s.ce, .slice s.Ag ng s.cg, .slice s.Ah nh s.ch, .slice s.Au nu s.cu, .slice s.Ar nr s.cr]] V (RetB V β) from rightPol_c s P V ne ng nh nu nr ((HRD.out.below hb).more hb.size) HWD.out HNE.out HNG.out HNH.out HNU.out HNR.out β HBT.out)
  have HA1 := Lib.hid (fun (V : World) (hb : Below w1.heap.size w1 V) => show Calls Try.prog 10 #[.agg #[.slice s.Ae ne s.ce, .slice s.Ag ng s.cg, .slice s.Ah nh s.ch, .slice s.Au nu s.cu, .slice s.Ar nr s.cr], .int .i64 xw, .int .i64 xv, .int .i64 xe] V (RetB V q1) from ruMay_c s P V ne ng nh nu nr ((HRD.out.below hb).more hb.size) HWD.out HNE.out HNG.out HNH.out HNU.out HNR.out β HBT.out xw xv xe q1 hq1)
  have HBB1 := Lib.hid (fun (V : World) (hb : Below w1.heap.size w1 V) => show Calls Try.prog 11 #[.agg #[.slice s.Ae ne s.ce, .slice s.Ag ng s.cg, .slice s.Ah nh s.ch, .slice s.Au nu s.cu, .slice s.Ar nr s.cr], .int .i64 xw, .int .i64 xv, .int .i64 xe] V (RetB V q1) from rfMay_c s P V ne ng nh nu nr ((HRD.out.below hb).more hb.size) HWD.out HNE.out HNG.out HNH.out HNU.out HNR.out β HBT.out xw xv xe q1 hq1)
  have HA2 := Lib.hid (fun (V : World) (hb : Below w1.heap.size w1 V) => show Calls Try.prog 12 #[.agg #[.slice s.Ae ne s.ce, .slice s.Ag ng s.cg, .slice s.Ah nh s.ch, .slice s.Au nu s.cu, .slice s.Ar nr s.cr], .int .i64 xe] V (RetL V n1 v1) from ruLabel_c s P V ne ng nh nu nr ((HRD.out.below hb).more hb.size) HWD.out HNE.out HNG.out HNH.out HNU.out HNR.out β HBT.out xe n1 v1 hl1)
  have HB2 := Lib.hid (fun (V : World) (hb : Below w1.heap.size w1 V) => show Calls Try.prog 13 #[.agg #[.slice s.Ae ne s.ce, .slice s.Ag ng s.cg, .slice s.Ah nh s.ch, .slice s.Au nu s.cu, .slice s.Ar nr s.cr], .int .i64 xe] V (RetL V n1 v1) from entLabel_c s P V ne ng nh nu nr ((HRD.out.below hb).more hb.size) HWD.out HNE.out HNG.out HNH.out HNU.out HNR.out β HBT.out xe n1 v1 hl1)
  have HA3 := Lib.hid (fun (V : World) (hb : Below w1.heap.size w1 V) => show Calls Try.prog 14 #[.agg #[.slice s.Ae ne s.ce, .slice s.Ag ng s.cg, .slice s.Ah nh s.ch, .slice s.Au nu s.cu, .slice s.Ar nr s.cr], .int .i64 xe] V (RetL V n2 v2) from ruGroup_c s P V ne ng nh nu nr ((HRD.out.below hb).more hb.size) HWD.out HNE.out HNG.out HNH.out HNU.out HNR.out β HBT.out xe n2 v2 hl2)
  have HB3 := Lib.hid (fun (V : World) (hb : Below w1.heap.size w1 V) => show Calls Try.prog 15 #[.agg #[.slice s.Ae ne s.ce, .slice s.Ag ng s.cg, .slice s.Ah nh s.ch, .slice s.Au nu s.cu, .slice s.Ar nr s.cr], .int .i64 xe] V (RetL V n2 v2) from groupLabel_c s P V ne ng nh nu nr ((HRD.out.below hb).more hb.size) HWD.out HNE.out HNG.out HNH.out HNU.out HNR.out β HBT.out xe n2 v2 hl2)
  have HA4 := Lib.hid (fun (V : World) (hb : Below w1.heap.size w1 V) => show Calls Try.prog 16 #[.agg #[.slice s.Ae ne s.ce, .slice s.Ag ng s.cg, .slice s.Ah nh s.ch, .slice s.Au nu s.cu, .slice s.Ar nr s.cr], .int .i64 xw, .agg #[.int .u64 (la : Int), .int .i64 lu]] V (RetB V q2) from ruSees_c s P V ne ng nh nu nr ((HRD.out.below hb).more hb.size) HWD.out HNE.out HNG.out HNH.out HNU.out HNR.out β HBT.out xw la lu hla q2 hq2)
  have HB4 := Lib.hid (fun (V : World) (hb : Below w1.heap.size w1 V) => show Calls Try.prog 17 #[.agg #[.slice s.Ae ne s.ce, .slice s.Ag ng s.cg, .slice s.Ah nh s.ch, .slice s.Au nu s.cu, .slice s.Ar nr s.cr], .int .i64 xw, .agg #[.int .u64 (la : Int), .int .i64 lu]] V (RetB V q2) from sees_c s P V ne ng nh nu nr ((HRD.out.below hb).more hb.size) HWD.out HNE.out HNG.out HNH.out HNU.out HNR.out β HBT.out xw la lu hla q2 hq2)
  have HA5 := Lib.hid (fun (V : World) (hb : Below w1.heap.size w1 V) => show Calls Try.prog 18 #[.agg #[.slice s.Ae ne s.ce, .slice s.Ag ng s.cg, .slice s.Ah nh s.ch, .slice s.Au nu s.cu, .slice s.Ar nr s.cr], .int .i64 xw, .int .i64 xk] V (RetB V q3) from ruRel_c2 s P V ne ng nh nu nr ((HRD.out.below hb).more hb.size) HWD.out HNE.out HNG.out HNH.out HNU.out HNR.out β HBT.out xw xk q3 hq3)
  have HB5 := Lib.hid (fun (V : World) (hb : Below w1.heap.size w1 V) => show Calls Try.prog 19 #[.agg #[.slice s.Ae ne s.ce, .slice s.Ag ng s.cg, .slice s.Ah nh s.ch, .slice s.Au nu s.cu, .slice s.Ar nr s.cr], .int .i64 xw, .int .i64 xk] V (RetB V q3) from releases_c s P V ne ng nh nu nr ((HRD.out.below hb).more hb.size) HWD.out HNE.out HNG.out HNH.out HNU.out HNR.out β HBT.out xw xk q3 hq3)
  clear hq1 hq2 hq3 hl1 hl2 hla
  refine wp_region_det (S := fun V => Below W4.heap.size W4 V) (by kernel_rfl) (Below.refl W4.heap.size W4).drew ?_
  refine det_take (v := ?_) (i := 0) (fuel := 61) (by simp; rfl) (by kernel_rfl) (by kernel_rfl) (by kernel_rfl) (Or.inl ⟨by rfl, fun w' hS => Or.inr ⟨7, #[], w', ?_, ?_⟩⟩) ?_
  rotate_left
  · go_simp
    all_goals with_reducible rfl
  · exact (HKN.out w').mono fun e w2 h => ⟨by rw [h.1], hS.trans (h.2.mono hS.size)⟩
  simp only [Act.put, List.setIfInBounds_toArray, List.set_cons_zero, List.set_cons_succ]
  refine det_take (v := ?_) (i := 1) (fuel := 60) (by simp; rfl) (by kernel_rfl) (by kernel_rfl) (by kernel_rfl) (Or.inl ⟨by rfl, fun w' hS => Or.inl ⟨w', ?_, hS⟩⟩) ?_
  rotate_left
  · go_simp
    all_goals with_reducible rfl
  simp only [Act.put, List.setIfInBounds_toArray, List.set_cons_zero, List.set_cons_succ]
  refine det_take (v := ?_) (i := 2) (fuel := 59) (by simp; rfl) (by kernel_rfl) (by kernel_rfl) (by kernel_rfl) (Or.inl ⟨by rfl, fun w' hS => Or.inl ⟨w', ?_, hS⟩⟩) ?_
  rotate_left
  · obtain ⟨l2, y0, y1, y2, y3, y4⟩ := PolBl.cells (Blk.below HP4.out hS (Blk.lt HP4.out))
    go_simp
    all_goals with_reducible rfl
  simp only [Act.put, List.setIfInBounds_toArray, List.set_cons_zero, List.set_cons_succ]
  refine det_take (v := ?_) (i := 3) (fuel := 58) (by simp; rfl) (by kernel_rfl) (by kernel_rfl) (by kernel_rfl) (Or.inl ⟨by rfl, fun w' hS => Or.inr ⟨8, #[.agg #[.slice s.Ae ne s.ce, .slice s.Ag ng s.cg, .slice s.Ah nh s.ch, .slice s.Au nu s.cu, .slice s.Ar nr s.cr]], w', ?_, ?_⟩⟩) ?_
  rotate_left
  · go_simp
    all_goals with_reducible rfl
  · exact (HA0.out w' (HX4.out.trans (hS.mono HX4.out.size))).mono fun e w2 h => ⟨by rw [h.1], hS.trans (h.2.mono hS.size)⟩
  simp only [Act.put, List.setIfInBounds_toArray, List.set_cons_zero, List.set_cons_succ]
  refine det_take (v := ?_) (i := 4) (fuel := 57) (by simp; rfl) (by kernel_rfl) (by kernel_rfl) (by kernel_rfl) (Or.inl ⟨by rfl, fun w' hS => Or.inl ⟨w', ?_, hS⟩⟩) ?_
  rotate_left
  · obtain ⟨l2, y0, y1, y2, y3, y4⟩ := PolBl.cells (Blk.below HP4.out hS (Blk.lt HP4.out))
    go_simp
    all_goals with_reducible rfl
  simp only [Act.put, List.setIfInBounds_toArray, List.set_cons_zero, List.set_cons_succ]
  refine det_take (v := ?_) (i := 5) (fuel := 56) (by simp; rfl) (by kernel_rfl) (by kernel_rfl) (by kernel_rfl) (Or.inl ⟨by rfl, fun w' hS => Or.inr ⟨9, #[.agg #[.slice s.Ae ne s.ce, .slice s.Ag ng s.cg, .slice s.Ah nh s.ch, .slice s.Au nu s.cu, .slice s.Ar nr s.cr]], w', ?_, ?_⟩⟩) ?_
  rotate_left
  · go_simp
    all_goals with_reducible rfl
  · exact (HB0.out w' (HX4.out.trans (hS.mono HX4.out.size))).mono fun e w2 h => ⟨by rw [h.1], hS.trans (h.2.mono hS.size)⟩
  simp only [Act.put, List.setIfInBounds_toArray, List.set_cons_zero, List.set_cons_succ]
  refine det_take (v := ?_) (i := 6) (fuel := 55) (by simp; rfl) (by kernel_rfl) (by kernel_rfl) (by kernel_rfl) (Or.inl ⟨by rfl, fun w' hS => Or.inl ⟨w', ?_, hS⟩⟩) ?_
  rotate_left
  · go_simp
    all_goals with_reducible rfl
  simp only [Act.put, List.setIfInBounds_toArray, List.set_cons_zero, List.set_cons_succ]
  refine det_take (v := ?_) (i := 7) (fuel := 54) (by simp; rfl) (by kernel_rfl) (by kernel_rfl) (by kernel_rfl) (Or.inl ⟨by rfl, fun w' hS => Or.inl ⟨w', ?_, hS⟩⟩) ?_
  rotate_left
  · go_simp
    all_goals with_reducible rfl
  simp only [Act.put, List.setIfInBounds_toArray, List.set_cons_zero, List.set_cons_succ]
  refine det_take (v := ?_) (i := 8) (fuel := 53) (by simp; rfl) (by kernel_rfl) (by kernel_rfl) (by kernel_rfl) (Or.inl ⟨by rfl, fun w' hS => Or.inl ⟨w', ?_, hS⟩⟩) ?_
  rotate_left
  · go_simp
    all_goals with_reducible rfl
  simp only [Act.put, List.setIfInBounds_toArray, List.set_cons_zero, List.set_cons_succ]
  refine det_take (v := ?_) (i := 9) (fuel := 52) (by simp; rfl) (by kernel_rfl) (by kernel_rfl) (by kernel_rfl) (Or.inl ⟨by rfl, fun w' hS => Or.inl ⟨w', ?_, hS⟩⟩) ?_
  rotate_left
  · obtain ⟨l2, y0, y1, y2, y3, y4⟩ := PolBl.cells (Blk.below HP4.out hS (Blk.lt HP4.out))
    go_simp
    all_goals with_reducible rfl
  simp only [Act.put, List.setIfInBounds_toArray, List.set_cons_zero, List.set_cons_succ]
  refine det_take (v := ?_) (i := 10) (fuel := 51) (by simp; rfl) (by kernel_rfl) (by kernel_rfl) (by kernel_rfl) (Or.inl ⟨by rfl, fun w' hS => Or.inl ⟨w', ?_, hS⟩⟩) ?_
  rotate_left
  · go_simp
    all_goals with_reducible rfl
  simp only [Act.put, List.setIfInBounds_toArray, List.set_cons_zero, List.set_cons_succ]
  refine det_take (v := ?_) (i := 11) (fuel := 50) (by simp; rfl) (by kernel_rfl) (by kernel_rfl) (by kernel_rfl) (Or.inl ⟨by rfl, fun w' hS => Or.inl ⟨w', ?_, hS⟩⟩) ?_
  rotate_left
  · go_simp
    all_goals with_reducible rfl
  simp only [Act.put, List.setIfInBounds_toArray, List.set_cons_zero, List.set_cons_succ]
  refine det_take (v := ?_) (i := 12) (fuel := 49) (by simp; rfl) (by kernel_rfl) (by kernel_rfl) (by kernel_rfl) (Or.inl ⟨by rfl, fun w' hS => Or.inl ⟨w', ?_, hS⟩⟩) ?_
  rotate_left
  · go_simp
    all_goals with_reducible rfl
  simp only [Act.put, List.setIfInBounds_toArray, List.set_cons_zero, List.set_cons_succ]
  refine det_take (v := ?_) (i := 13) (fuel := 48) (by simp; rfl) (by kernel_rfl) (by kernel_rfl) (by kernel_rfl) (Or.inl ⟨by rfl, fun w' hS => Or.inr ⟨10, #[.agg #[.slice s.Ae ne s.ce, .slice s.Ag ng s.cg, .slice s.Ah nh s.ch, .slice s.Au nu s.cu, .slice s.Ar nr s.cr], .int .i64 xw, .int .i64 xv, .int .i64 xe], w', ?_, ?_⟩⟩) ?_
  rotate_left
  · go_simp
    all_goals with_reducible rfl
  · exact (HA1.out w' (HX4.out.trans (hS.mono HX4.out.size))).mono fun e w2 h => ⟨by rw [h.1], hS.trans (h.2.mono hS.size)⟩
  simp only [Act.put, List.setIfInBounds_toArray, List.set_cons_zero, List.set_cons_succ]
  refine det_take (v := ?_) (i := 14) (fuel := 47) (by simp; rfl) (by kernel_rfl) (by kernel_rfl) (by kernel_rfl) (Or.inl ⟨by rfl, fun w' hS => Or.inl ⟨w', ?_, hS⟩⟩) ?_
  rotate_left
  · obtain ⟨l2, y0, y1, y2, y3, y4⟩ := PolBl.cells (Blk.below HP4.out hS (Blk.lt HP4.out))
    go_simp
    all_goals with_reducible rfl
  simp only [Act.put, List.setIfInBounds_toArray, List.set_cons_zero, List.set_cons_succ]
  refine det_take (v := ?_) (i := 15) (fuel := 46) (by simp; rfl) (by kernel_rfl) (by kernel_rfl) (by kernel_rfl) (Or.inl ⟨by rfl, fun w' hS => Or.inl ⟨w', ?_, hS⟩⟩) ?_
  rotate_left
  · go_simp
    all_goals with_reducible rfl
  simp only [Act.put, List.setIfInBounds_toArray, List.set_cons_zero, List.set_cons_succ]
  refine det_take (v := ?_) (i := 16) (fuel := 45) (by simp; rfl) (by kernel_rfl) (by kernel_rfl) (by kernel_rfl) (Or.inl ⟨by rfl, fun w' hS => Or.inl ⟨w', ?_, hS⟩⟩) ?_
  rotate_left
  · go_simp
    all_goals with_reducible rfl
  simp only [Act.put, List.setIfInBounds_toArray, List.set_cons_zero, List.set_cons_succ]
  refine det_take (v := ?_) (i := 17) (fuel := 44) (by simp; rfl) (by kernel_rfl) (by kernel_rfl) (by kernel_rfl) (Or.inl ⟨by rfl, fun w' hS => Or.inl ⟨w', ?_, hS⟩⟩) ?_
  rotate_left
  · go_simp
    all_goals with_reducible rfl
  simp only [Act.put, List.setIfInBounds_toArray, List.set_cons_zero, List.set_cons_succ]
  refine det_take (v := ?_) (i := 18) (fuel := 43) (by simp; rfl) (by kernel_rfl) (by kernel_rfl) (by kernel_rfl) (Or.inl ⟨by rfl, fun w' hS => Or.inr ⟨11, #[.agg #[.slice s.Ae ne s.ce, .slice s.Ag ng s.cg, .slice s.Ah nh s.ch, .slice s.Au nu s.cu, .slice s.Ar nr s.cr], .int .i64 xw, .int .i64 xv, .int .i64 xe], w', ?_, ?_⟩⟩) ?_
  rotate_left
  · go_simp
    all_goals with_reducible rfl
  · exact (HBB1.out w' (HX4.out.trans (hS.mono HX4.out.size))).mono fun e w2 h => ⟨by rw [h.1], hS.trans (h.2.mono hS.size)⟩
  simp only [Act.put, List.setIfInBounds_toArray, List.set_cons_zero, List.set_cons_succ]
  refine det_take (v := ?_) (i := 19) (fuel := 42) (by simp; rfl) (by kernel_rfl) (by kernel_rfl) (by kernel_rfl) (Or.inl ⟨by rfl, fun w' hS => Or.inl ⟨w', ?_, hS⟩⟩) ?_
  rotate_left
  · go_simp
    all_goals with_reducible rfl
  simp only [Act.put, List.setIfInBounds_toArray, List.set_cons_zero, List.set_cons_succ]
  refine det_take (v := ?_) (i := 20) (fuel := 41) (by simp; rfl) (by kernel_rfl) (by kernel_rfl) (by kernel_rfl) (Or.inl ⟨by rfl, fun w' hS => Or.inl ⟨w', ?_, hS⟩⟩) ?_
  rotate_left
  · go_simp
    all_goals with_reducible rfl
  simp only [Act.put, List.setIfInBounds_toArray, List.set_cons_zero, List.set_cons_succ]
  refine det_take (v := ?_) (i := 21) (fuel := 40) (by simp; rfl) (by kernel_rfl) (by kernel_rfl) (by kernel_rfl) (Or.inl ⟨by rfl, fun w' hS => Or.inl ⟨w', ?_, hS⟩⟩) ?_
  rotate_left
  · go_simp
    all_goals with_reducible rfl
  simp only [Act.put, List.setIfInBounds_toArray, List.set_cons_zero, List.set_cons_succ]
  refine det_take (v := ?_) (i := 22) (fuel := 39) (by simp; rfl) (by kernel_rfl) (by kernel_rfl) (by kernel_rfl) (Or.inl ⟨by rfl, fun w' hS => Or.inl ⟨w', ?_, hS⟩⟩) ?_
  rotate_left
  · obtain ⟨l2, y0, y1, y2, y3, y4⟩ := PolBl.cells (Blk.below HP4.out hS (Blk.lt HP4.out))
    go_simp
    all_goals with_reducible rfl
  simp only [Act.put, List.setIfInBounds_toArray, List.set_cons_zero, List.set_cons_succ]
  refine det_take (v := ?_) (i := 23) (fuel := 38) (by simp; rfl) (by kernel_rfl) (by kernel_rfl) (by kernel_rfl) (Or.inl ⟨by rfl, fun w' hS => Or.inl ⟨w', ?_, hS⟩⟩) ?_
  rotate_left
  · go_simp
    all_goals with_reducible rfl
  simp only [Act.put, List.setIfInBounds_toArray, List.set_cons_zero, List.set_cons_succ]
  refine det_take (v := ?_) (i := 24) (fuel := 37) (by simp; rfl) (by kernel_rfl) (by kernel_rfl) (by kernel_rfl) (Or.inl ⟨by rfl, fun w' hS => Or.inr ⟨12, #[.agg #[.slice s.Ae ne s.ce, .slice s.Ag ng s.cg, .slice s.Ah nh s.ch, .slice s.Au nu s.cu, .slice s.Ar nr s.cr], .int .i64 xe], w', ?_, ?_⟩⟩) ?_
  rotate_left
  · go_simp
    all_goals with_reducible rfl
  · exact (HA2.out w' (HX4.out.trans (hS.mono HX4.out.size))).mono fun e w2 h => ⟨by rw [h.1], hS.trans (h.2.mono hS.size)⟩
  simp only [Act.put, List.setIfInBounds_toArray, List.set_cons_zero, List.set_cons_succ]
  refine det_take (v := ?_) (i := 25) (fuel := 36) (by simp; rfl) (by kernel_rfl) (by kernel_rfl) (by kernel_rfl) (Or.inl ⟨by rfl, fun w' hS => Or.inl ⟨w', ?_, hS⟩⟩) ?_
  rotate_left
  · obtain ⟨l2, y0, y1, y2, y3, y4⟩ := PolBl.cells (Blk.below HP4.out hS (Blk.lt HP4.out))
    go_simp
    all_goals with_reducible rfl
  simp only [Act.put, List.setIfInBounds_toArray, List.set_cons_zero, List.set_cons_succ]
  refine det_take (v := ?_) (i := 26) (fuel := 35) (by simp; rfl) (by kernel_rfl) (by kernel_rfl) (by kernel_rfl) (Or.inl ⟨by rfl, fun w' hS => Or.inl ⟨w', ?_, hS⟩⟩) ?_
  rotate_left
  · go_simp
    all_goals with_reducible rfl
  simp only [Act.put, List.setIfInBounds_toArray, List.set_cons_zero, List.set_cons_succ]
  refine det_take (v := ?_) (i := 27) (fuel := 34) (by simp; rfl) (by kernel_rfl) (by kernel_rfl) (by kernel_rfl) (Or.inl ⟨by rfl, fun w' hS => Or.inr ⟨13, #[.agg #[.slice s.Ae ne s.ce, .slice s.Ag ng s.cg, .slice s.Ah nh s.ch, .slice s.Au nu s.cu, .slice s.Ar nr s.cr], .int .i64 xe], w', ?_, ?_⟩⟩) ?_
  rotate_left
  · go_simp
    all_goals with_reducible rfl
  · exact (HB2.out w' (HX4.out.trans (hS.mono HX4.out.size))).mono fun e w2 h => ⟨by rw [h.1], hS.trans (h.2.mono hS.size)⟩
  simp only [Act.put, List.setIfInBounds_toArray, List.set_cons_zero, List.set_cons_succ]
  refine det_take (v := ?_) (i := 28) (fuel := 33) (by simp; rfl) (by kernel_rfl) (by kernel_rfl) (by kernel_rfl) (Or.inl ⟨by rfl, fun w' hS => Or.inl ⟨w', ?_, hS⟩⟩) ?_
  rotate_left
  · go_simp
    all_goals with_reducible rfl
  simp only [Act.put, List.setIfInBounds_toArray, List.set_cons_zero, List.set_cons_succ]
  refine det_take (v := ?_) (i := 29) (fuel := 32) (by simp; rfl) (by kernel_rfl) (by kernel_rfl) (by kernel_rfl) (Or.inl ⟨by rfl, fun w' hS => Or.inl ⟨w', ?_, hS⟩⟩) ?_
  rotate_left
  · go_simp
    all_goals with_reducible rfl
  simp only [Act.put, List.setIfInBounds_toArray, List.set_cons_zero, List.set_cons_succ]
  refine det_take (v := ?_) (i := 30) (fuel := 31) (by simp; rfl) (by kernel_rfl) (by kernel_rfl) (by kernel_rfl) (Or.inl ⟨by rfl, fun w' hS => Or.inl ⟨w', ?_, hS⟩⟩) ?_
  rotate_left
  · go_simp
    all_goals with_reducible rfl
  simp only [Act.put, List.setIfInBounds_toArray, List.set_cons_zero, List.set_cons_succ]
  refine det_take (v := ?_) (i := 31) (fuel := 30) (by simp; rfl) (by kernel_rfl) (by kernel_rfl) (by kernel_rfl) (Or.inl ⟨by rfl, fun w' hS => Or.inl ⟨w', ?_, hS⟩⟩) ?_
  rotate_left
  · obtain ⟨l2, y0, y1, y2, y3, y4⟩ := PolBl.cells (Blk.below HP4.out hS (Blk.lt HP4.out))
    go_simp
    all_goals with_reducible rfl
  simp only [Act.put, List.setIfInBounds_toArray, List.set_cons_zero, List.set_cons_succ]
  refine det_take (v := ?_) (i := 32) (fuel := 29) (by simp; rfl) (by kernel_rfl) (by kernel_rfl) (by kernel_rfl) (Or.inl ⟨by rfl, fun w' hS => Or.inl ⟨w', ?_, hS⟩⟩) ?_
  rotate_left
  · go_simp
    all_goals with_reducible rfl
  simp only [Act.put, List.setIfInBounds_toArray, List.set_cons_zero, List.set_cons_succ]
  refine det_take (v := ?_) (i := 33) (fuel := 28) (by simp; rfl) (by kernel_rfl) (by kernel_rfl) (by kernel_rfl) (Or.inl ⟨by rfl, fun w' hS => Or.inr ⟨14, #[.agg #[.slice s.Ae ne s.ce, .slice s.Ag ng s.cg, .slice s.Ah nh s.ch, .slice s.Au nu s.cu, .slice s.Ar nr s.cr], .int .i64 xe], w', ?_, ?_⟩⟩) ?_
  rotate_left
  · go_simp
    all_goals with_reducible rfl
  · exact (HA3.out w' (HX4.out.trans (hS.mono HX4.out.size))).mono fun e w2 h => ⟨by rw [h.1], hS.trans (h.2.mono hS.size)⟩
  simp only [Act.put, List.setIfInBounds_toArray, List.set_cons_zero, List.set_cons_succ]
  refine det_take (v := ?_) (i := 34) (fuel := 27) (by simp; rfl) (by kernel_rfl) (by kernel_rfl) (by kernel_rfl) (Or.inl ⟨by rfl, fun w' hS => Or.inl ⟨w', ?_, hS⟩⟩) ?_
  rotate_left
  · obtain ⟨l2, y0, y1, y2, y3, y4⟩ := PolBl.cells (Blk.below HP4.out hS (Blk.lt HP4.out))
    go_simp
    all_goals with_reducible rfl
  simp only [Act.put, List.setIfInBounds_toArray, List.set_cons_zero, List.set_cons_succ]
  refine det_take (v := ?_) (i := 35) (fuel := 26) (by simp; rfl) (by kernel_rfl) (by kernel_rfl) (by kernel_rfl) (Or.inl ⟨by rfl, fun w' hS => Or.inl ⟨w', ?_, hS⟩⟩) ?_
  rotate_left
  · go_simp
    all_goals with_reducible rfl
  simp only [Act.put, List.setIfInBounds_toArray, List.set_cons_zero, List.set_cons_succ]
  refine det_take (v := ?_) (i := 36) (fuel := 25) (by simp; rfl) (by kernel_rfl) (by kernel_rfl) (by kernel_rfl) (Or.inl ⟨by rfl, fun w' hS => Or.inr ⟨15, #[.agg #[.slice s.Ae ne s.ce, .slice s.Ag ng s.cg, .slice s.Ah nh s.ch, .slice s.Au nu s.cu, .slice s.Ar nr s.cr], .int .i64 xe], w', ?_, ?_⟩⟩) ?_
  rotate_left
  · go_simp
    all_goals with_reducible rfl
  · exact (HB3.out w' (HX4.out.trans (hS.mono HX4.out.size))).mono fun e w2 h => ⟨by rw [h.1], hS.trans (h.2.mono hS.size)⟩
  simp only [Act.put, List.setIfInBounds_toArray, List.set_cons_zero, List.set_cons_succ]
  refine det_take (v := ?_) (i := 37) (fuel := 24) (by simp; rfl) (by kernel_rfl) (by kernel_rfl) (by kernel_rfl) (Or.inl ⟨by rfl, fun w' hS => Or.inl ⟨w', ?_, hS⟩⟩) ?_
  rotate_left
  · go_simp
    all_goals with_reducible rfl
  simp only [Act.put, List.setIfInBounds_toArray, List.set_cons_zero, List.set_cons_succ]
  refine det_take (v := ?_) (i := 38) (fuel := 23) (by simp; rfl) (by kernel_rfl) (by kernel_rfl) (by kernel_rfl) (Or.inl ⟨by rfl, fun w' hS => Or.inl ⟨w', ?_, hS⟩⟩) ?_
  rotate_left
  · go_simp
    all_goals with_reducible rfl
  simp only [Act.put, List.setIfInBounds_toArray, List.set_cons_zero, List.set_cons_succ]
  refine det_take (v := ?_) (i := 39) (fuel := 22) (by simp; rfl) (by kernel_rfl) (by kernel_rfl) (by kernel_rfl) (Or.inl ⟨by rfl, fun w' hS => Or.inl ⟨w', ?_, hS⟩⟩) ?_
  rotate_left
  · go_simp
    all_goals with_reducible rfl
  simp only [Act.put, List.setIfInBounds_toArray, List.set_cons_zero, List.set_cons_succ]
  refine det_take (v := ?_) (i := 40) (fuel := 21) (by simp; rfl) (by kernel_rfl) (by kernel_rfl) (by kernel_rfl) (Or.inl ⟨by rfl, fun w' hS => Or.inl ⟨w', ?_, hS⟩⟩) ?_
  rotate_left
  · obtain ⟨l2, y0, y1, y2, y3, y4⟩ := PolBl.cells (Blk.below HP4.out hS (Blk.lt HP4.out))
    go_simp
    all_goals with_reducible rfl
  simp only [Act.put, List.setIfInBounds_toArray, List.set_cons_zero, List.set_cons_succ]
  refine det_take (v := ?_) (i := 41) (fuel := 20) (by simp; rfl) (by kernel_rfl) (by kernel_rfl) (by kernel_rfl) (Or.inl ⟨by rfl, fun w' hS => Or.inl ⟨w', ?_, hS⟩⟩) ?_
  rotate_left
  · go_simp
    all_goals with_reducible rfl
  simp only [Act.put, List.setIfInBounds_toArray, List.set_cons_zero, List.set_cons_succ]
  refine det_take (v := ?_) (i := 42) (fuel := 19) (by simp; rfl) (by kernel_rfl) (by kernel_rfl) (by kernel_rfl) (Or.inl ⟨by rfl, fun w' hS => Or.inl ⟨w', ?_, hS⟩⟩) ?_
  rotate_left
  · have z0 : w'.cell? ⟨gx, 0, none⟩ = some (.int .u64 (la : Int)) := ((HL4.out.below hS HL4.out.lt).cell 0).trans rfl
    have z1 : w'.cell? ⟨gx, 1, none⟩ = some (.int .i64 lu) := ((HL4.out.below hS HL4.out.lt).cell 1).trans rfl
    have zl := (HL4.out.below hS HL4.out.lt).lt
    go_simp
    all_goals with_reducible rfl
  simp only [Act.put, List.setIfInBounds_toArray, List.set_cons_zero, List.set_cons_succ]
  refine det_take (v := ?_) (i := 43) (fuel := 18) (by simp; rfl) (by kernel_rfl) (by kernel_rfl) (by kernel_rfl) (Or.inl ⟨by rfl, fun w' hS => Or.inr ⟨16, #[.agg #[.slice s.Ae ne s.ce, .slice s.Ag ng s.cg, .slice s.Ah nh s.ch, .slice s.Au nu s.cu, .slice s.Ar nr s.cr], .int .i64 xw, .agg #[.int .u64 (la : Int), .int .i64 lu]], w', ?_, ?_⟩⟩) ?_
  rotate_left
  · go_simp
    all_goals with_reducible rfl
  · exact (HA4.out w' (HX4.out.trans (hS.mono HX4.out.size))).mono fun e w2 h => ⟨by rw [h.1], hS.trans (h.2.mono hS.size)⟩
  simp only [Act.put, List.setIfInBounds_toArray, List.set_cons_zero, List.set_cons_succ]
  refine det_take (v := ?_) (i := 44) (fuel := 17) (by simp; rfl) (by kernel_rfl) (by kernel_rfl) (by kernel_rfl) (Or.inl ⟨by rfl, fun w' hS => Or.inl ⟨w', ?_, hS⟩⟩) ?_
  rotate_left
  · obtain ⟨l2, y0, y1, y2, y3, y4⟩ := PolBl.cells (Blk.below HP4.out hS (Blk.lt HP4.out))
    go_simp
    all_goals with_reducible rfl
  simp only [Act.put, List.setIfInBounds_toArray, List.set_cons_zero, List.set_cons_succ]
  refine det_take (v := ?_) (i := 45) (fuel := 16) (by simp; rfl) (by kernel_rfl) (by kernel_rfl) (by kernel_rfl) (Or.inl ⟨by rfl, fun w' hS => Or.inl ⟨w', ?_, hS⟩⟩) ?_
  rotate_left
  · go_simp
    all_goals with_reducible rfl
  simp only [Act.put, List.setIfInBounds_toArray, List.set_cons_zero, List.set_cons_succ]
  refine det_take (v := ?_) (i := 46) (fuel := 15) (by simp; rfl) (by kernel_rfl) (by kernel_rfl) (by kernel_rfl) (Or.inl ⟨by rfl, fun w' hS => Or.inl ⟨w', ?_, hS⟩⟩) ?_
  rotate_left
  · have z0 : w'.cell? ⟨gx, 0, none⟩ = some (.int .u64 (la : Int)) := ((HL4.out.below hS HL4.out.lt).cell 0).trans rfl
    have z1 : w'.cell? ⟨gx, 1, none⟩ = some (.int .i64 lu) := ((HL4.out.below hS HL4.out.lt).cell 1).trans rfl
    have zl := (HL4.out.below hS HL4.out.lt).lt
    go_simp
    all_goals with_reducible rfl
  simp only [Act.put, List.setIfInBounds_toArray, List.set_cons_zero, List.set_cons_succ]
  refine det_take (v := ?_) (i := 47) (fuel := 14) (by simp; rfl) (by kernel_rfl) (by kernel_rfl) (by kernel_rfl) (Or.inl ⟨by rfl, fun w' hS => Or.inr ⟨17, #[.agg #[.slice s.Ae ne s.ce, .slice s.Ag ng s.cg, .slice s.Ah nh s.ch, .slice s.Au nu s.cu, .slice s.Ar nr s.cr], .int .i64 xw, .agg #[.int .u64 (la : Int), .int .i64 lu]], w', ?_, ?_⟩⟩) ?_
  rotate_left
  · go_simp
    all_goals with_reducible rfl
  · exact (HB4.out w' (HX4.out.trans (hS.mono HX4.out.size))).mono fun e w2 h => ⟨by rw [h.1], hS.trans (h.2.mono hS.size)⟩
  simp only [Act.put, List.setIfInBounds_toArray, List.set_cons_zero, List.set_cons_succ]
  refine det_take (v := ?_) (i := 48) (fuel := 13) (by simp; rfl) (by kernel_rfl) (by kernel_rfl) (by kernel_rfl) (Or.inl ⟨by rfl, fun w' hS => Or.inl ⟨w', ?_, hS⟩⟩) ?_
  rotate_left
  · go_simp
    all_goals with_reducible rfl
  simp only [Act.put, List.setIfInBounds_toArray, List.set_cons_zero, List.set_cons_succ]
  refine det_take (v := ?_) (i := 49) (fuel := 12) (by simp; rfl) (by kernel_rfl) (by kernel_rfl) (by kernel_rfl) (Or.inl ⟨by rfl, fun w' hS => Or.inl ⟨w', ?_, hS⟩⟩) ?_
  rotate_left
  · go_simp
    all_goals with_reducible rfl
  simp only [Act.put, List.setIfInBounds_toArray, List.set_cons_zero, List.set_cons_succ]
  refine det_take (v := ?_) (i := 50) (fuel := 11) (by simp; rfl) (by kernel_rfl) (by kernel_rfl) (by kernel_rfl) (Or.inl ⟨by rfl, fun w' hS => Or.inl ⟨w', ?_, hS⟩⟩) ?_
  rotate_left
  · go_simp
    all_goals with_reducible rfl
  simp only [Act.put, List.setIfInBounds_toArray, List.set_cons_zero, List.set_cons_succ]
  refine det_take (v := ?_) (i := 51) (fuel := 10) (by simp; rfl) (by kernel_rfl) (by kernel_rfl) (by kernel_rfl) (Or.inl ⟨by rfl, fun w' hS => Or.inl ⟨w', ?_, hS⟩⟩) ?_
  rotate_left
  · obtain ⟨l2, y0, y1, y2, y3, y4⟩ := PolBl.cells (Blk.below HP4.out hS (Blk.lt HP4.out))
    go_simp
    all_goals with_reducible rfl
  simp only [Act.put, List.setIfInBounds_toArray, List.set_cons_zero, List.set_cons_succ]
  refine det_take (v := ?_) (i := 52) (fuel := 9) (by simp; rfl) (by kernel_rfl) (by kernel_rfl) (by kernel_rfl) (Or.inl ⟨by rfl, fun w' hS => Or.inl ⟨w', ?_, hS⟩⟩) ?_
  rotate_left
  · go_simp
    all_goals with_reducible rfl
  simp only [Act.put, List.setIfInBounds_toArray, List.set_cons_zero, List.set_cons_succ]
  refine det_take (v := ?_) (i := 53) (fuel := 8) (by simp; rfl) (by kernel_rfl) (by kernel_rfl) (by kernel_rfl) (Or.inl ⟨by rfl, fun w' hS => Or.inl ⟨w', ?_, hS⟩⟩) ?_
  rotate_left
  · go_simp
    all_goals with_reducible rfl
  simp only [Act.put, List.setIfInBounds_toArray, List.set_cons_zero, List.set_cons_succ]
  refine det_take (v := ?_) (i := 54) (fuel := 7) (by simp; rfl) (by kernel_rfl) (by kernel_rfl) (by kernel_rfl) (Or.inl ⟨by rfl, fun w' hS => Or.inr ⟨18, #[.agg #[.slice s.Ae ne s.ce, .slice s.Ag ng s.cg, .slice s.Ah nh s.ch, .slice s.Au nu s.cu, .slice s.Ar nr s.cr], .int .i64 xw, .int .i64 xk], w', ?_, ?_⟩⟩) ?_
  rotate_left
  · go_simp
    all_goals with_reducible rfl
  · exact (HA5.out w' (HX4.out.trans (hS.mono HX4.out.size))).mono fun e w2 h => ⟨by rw [h.1], hS.trans (h.2.mono hS.size)⟩
  simp only [Act.put, List.setIfInBounds_toArray, List.set_cons_zero, List.set_cons_succ]
  refine det_take (v := ?_) (i := 55) (fuel := 6) (by simp; rfl) (by kernel_rfl) (by kernel_rfl) (by kernel_rfl) (Or.inl ⟨by rfl, fun w' hS => Or.inl ⟨w', ?_, hS⟩⟩) ?_
  rotate_left
  · obtain ⟨l2, y0, y1, y2, y3, y4⟩ := PolBl.cells (Blk.below HP4.out hS (Blk.lt HP4.out))
    go_simp
    all_goals with_reducible rfl
  simp only [Act.put, List.setIfInBounds_toArray, List.set_cons_zero, List.set_cons_succ]
  refine det_take (v := ?_) (i := 56) (fuel := 5) (by simp; rfl) (by kernel_rfl) (by kernel_rfl) (by kernel_rfl) (Or.inl ⟨by rfl, fun w' hS => Or.inl ⟨w', ?_, hS⟩⟩) ?_
  rotate_left
  · go_simp
    all_goals with_reducible rfl
  simp only [Act.put, List.setIfInBounds_toArray, List.set_cons_zero, List.set_cons_succ]
  refine det_take (v := ?_) (i := 57) (fuel := 4) (by simp; rfl) (by kernel_rfl) (by kernel_rfl) (by kernel_rfl) (Or.inl ⟨by rfl, fun w' hS => Or.inl ⟨w', ?_, hS⟩⟩) ?_
  rotate_left
  · go_simp
    all_goals with_reducible rfl
  simp only [Act.put, List.setIfInBounds_toArray, List.set_cons_zero, List.set_cons_succ]
  refine det_take (v := ?_) (i := 58) (fuel := 3) (by simp; rfl) (by kernel_rfl) (by kernel_rfl) (by kernel_rfl) (Or.inl ⟨by rfl, fun w' hS => Or.inr ⟨19, #[.agg #[.slice s.Ae ne s.ce, .slice s.Ag ng s.cg, .slice s.Ah nh s.ch, .slice s.Au nu s.cu, .slice s.Ar nr s.cr], .int .i64 xw, .int .i64 xk], w', ?_, ?_⟩⟩) ?_
  rotate_left
  · go_simp
    all_goals with_reducible rfl
  · exact (HB5.out w' (HX4.out.trans (hS.mono HX4.out.size))).mono fun e w2 h => ⟨by rw [h.1], hS.trans (h.2.mono hS.size)⟩
  simp only [Act.put, List.setIfInBounds_toArray, List.set_cons_zero, List.set_cons_succ]
  refine det_take (v := ?_) (i := 59) (fuel := 2) (by simp; rfl) (by kernel_rfl) (by kernel_rfl) (by kernel_rfl) (Or.inl ⟨by rfl, fun w' hS => Or.inl ⟨w', ?_, hS⟩⟩) ?_
  rotate_left
  · go_simp
    all_goals with_reducible rfl
  simp only [Act.put, List.setIfInBounds_toArray, List.set_cons_zero, List.set_cons_succ]
  refine det_take (v := ?_) (i := 60) (fuel := 1) (by simp; rfl) (by kernel_rfl) (by kernel_rfl) (by kernel_rfl) (Or.inl ⟨by rfl, fun w' hS => Or.inl ⟨w', ?_, hS⟩⟩) ?_
  rotate_left
  · go_simp
    all_goals with_reducible rfl
  simp only [Act.put, List.setIfInBounds_toArray, List.set_cons_zero, List.set_cons_succ]
  refine det_take (v := ?_) (i := 61) (fuel := 0) (by simp; rfl) (by kernel_rfl) (by kernel_rfl) (by kernel_rfl) (Or.inl ⟨by rfl, fun w' hS => Or.inl ⟨w', ?_, hS⟩⟩) ?_
  rotate_left
  · go_simp
    all_goals with_reducible rfl
  simp only [Act.put, List.setIfInBounds_toArray, List.set_cons_zero, List.set_cons_succ]
  refine det_done (by kernel_rfl) (fun V hV => ?_) _
  go_wp2
  go_ret
  exact ⟨rfl, HB1.out.trans ((HX4.out.trans (hV.mono HX4.out.size)).mono HB1.out.size)⟩
end Go.Proofs.Ytakofbkbbmpfeaa

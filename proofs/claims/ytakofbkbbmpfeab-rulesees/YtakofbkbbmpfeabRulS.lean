/- RuleSees. -/
import Derived.Test.YtakofbkbbmpfeabRulO
import Derived.Test.YtakofbkbbmpfeabRulJ
import Derived.Test.YtakofbkbbmpfeabDet
namespace Go.Proofs.Ytakofbkbbmpfeab
open Go.RowKit
@[go_sem] theorem field_l1 (a v : Int) (w : World) : (Instr.field 33 (.agg #[.int .u64 a, .int .i64 v]) 1).run Try.prog w = .ok (.int .i64 v) w := by kernel_rfl
set_option maxRecDepth 100000 in
set_option maxHeartbeats 25600000 in
theorem ruleSees_c (A0 : Option Addr) (n0 c0 : Nat) (xs : List Int) (a1 a2 a3 a4 : Int) (w : World) (hL : IL w w.heap.size A0 n0 c0 xs) (hn0 : n0 ≤ 9223372036854775807) :
    Calls Try.prog 3 #[.slice A0 n0 c0, .int .i64 a1, .int .i64 a2, .int .i64 a3, .int .i64 a4] w (RetB w true) := by
  have HPO := Lib.hid (policy_c A0 n0 c0 xs w hL hn0)
  have HKN := Lib.hid (fun V : World => known_c V)
  clear hL
  go_enter Try.func3, Try.ntmps3
  go_wp2_with fail
  (with_reducible refine HPO.out.mono ?_)
  rintro e w1 ⟨R, P, rfl, hR, hG, hb⟩
  obtain ⟨s, e1, e2, e3, e4, e5, hrd, hch, hcr⟩ := hR.rdc
  have hright := hG.right
  have hwd := hG.wd
  obtain ⟨ne, hne⟩ : ∃ n, P.ents.length = n := ⟨_, rfl⟩
  obtain ⟨ng, hng⟩ : ∃ n, P.grp.length = n := ⟨_, rfl⟩
  obtain ⟨nh, hnh⟩ : ∃ n, P.who.length = n := ⟨_, rfl⟩
  obtain ⟨nu, hnu⟩ : ∃ n, P.up.length = n := ⟨_, rfl⟩
  obtain ⟨nr, hnr⟩ : ∃ n, P.rules.length = n := ⟨_, rfl⟩
  have hsz : (1 ≤ ne ∧ ne ≤ 8) ∧ (1 ≤ ng ∧ ng ≤ 3) ∧ (1 ≤ nh ∧ nh ≤ 8) ∧ (1 ≤ nu ∧ nu ≤ 1000) ∧ (7 ≤ nr ∧ nr ≤ 13) := by
    obtain ⟨N, h2, h4, ⟨hn, he⟩, ⟨hg, hg1, hg3⟩, ⟨hu, hu2⟩, ⟨⟨hw, _⟩, hw2, hw4⟩, hr, hr7, hr13⟩ := hG
    omega
  obtain ⟨hse, hsg, hsh, hsu, hsr⟩ := hsz
  rw [hne] at e1; rw [hng] at e2; rw [hnh] at e3; rw [hnu] at e4; rw [hnr] at e5
  rw [e1, e2, e3, e4, e5]
  rw [hnh] at hch
  have HRD := Lib.hid hrd
  have HB1 := Lib.hid hb
  have HRT := Lib.hid hright
  have HWD := Lib.hid hwd
  have HNE := Lib.hid hne
  have HNG := Lib.hid hng
  have HNH := Lib.hid hnh
  have HNU := Lib.hid hnu
  have HNR := Lib.hid hnr
  clear e1 e2 e3 e4 e5 hR hG hb hrd hright hwd hne hng hnh hnu hnr R HPO hcr
  obtain ⟨gp, hgp⟩ : ∃ x, w1.heap.size = x := ⟨_, rfl⟩
  obtain ⟨W2, hW2⟩ : ∃ V, w1.alloc (.cells #[.slice s.Ae ne s.ce, .slice s.Ag ng s.cg, .slice s.Ah nh s.ch, .slice s.Au nu s.cu, .slice s.Ar nr s.cr] 28) = V := ⟨_, rfl⟩
  have HP2 := Lib.hid (show PolBl W2 gp s ne ng nh nu nr from by rw [← hW2, ← hgp]; exact Blk.new _ _ _)
  have HX2 := Lib.hid (show Below w1.heap.size w1 W2 from by rw [← hW2]; exact bel_alloc (Below.refl _ _) _)
  have h2 : W2.heap.size = gp + 1 := by rw [← hW2, ← hgp]; simp
  have HW2 := Lib.hid hW2
  have HGP := Lib.hid hgp
  clear hW2 hgp
  obtain ⟨k1, hk1, hk1'⟩ := pick_n a1 (nh : Int) (by omega)
  obtain ⟨k2, hk2, hk2'⟩ := pick_n a2 (ng : Int) (by omega)
  obtain ⟨k3, hk3, hk3'⟩ := pick_n a3 256 (by omega)
  obtain ⟨k4, hk4, hk4'⟩ := pick_n a4 4 (by omega)
  have HK1 := Lib.hid (fun V : World => pick_d a1 (nh : Int) (k1 : Int) V (by omega) (by omega) hk1)
  have HK2 := Lib.hid (fun V : World => pick_d a2 (ng : Int) (k2 : Int) V (by omega) (by omega) hk2)
  have HK3 := Lib.hid (fun V : World => pick_d a3 256 (k3 : Int) V (by omega) (by omega) hk3)
  have HK4 := Lib.hid (fun V : World => pick_d a4 4 (k4 : Int) V (by omega) (by omega) hk4)
  clear hk1 hk2 hk3 hk4
  obtain ⟨x, hx⟩ := get_at (l := P.who) (k := k1) (by rw [HNH.out]; omega)
  obtain ⟨G, hG⟩ := get_at (l := P.grp) (k := k2) (by rw [HNG.out]; omega)
  obtain ⟨gn, gv, hgl⟩ : ∃ n v, grpLab true P (k2 : Int) = (n, v) := ⟨_, _, rfl⟩
  obtain ⟨σ, hσ⟩ : ∃ b, seesB true P (k1 : Int) gn gv = b := ⟨_, rfl⟩
  have he8 := HRT.out.1.1.2
  have hGn := (HRT.out.2.2.1 k2 G hG).2
  rw [HNE.out] at he8 hGn
  have HQ := Lib.hid (show joinL true P (memL G) = (gn, gv) from by
    have h := hgl
    unfold grpLab at h
    rw [if_pos ⟨rfl, by omega, by rw [HNG.out]; exact hk2'⟩, Int.toNat_natCast, hG, HNE.out] at h
    rw [joinL_all hGn he8]
    exact h)
  have hgn8 : gn < 256 := by have h := joinL_lt true P (memL G); rw [HQ.out] at h; exact h
  have HGN := Lib.hid hGn
  have HLE := Lib.hid HRT.out.2.1
  have hGw := HWD.out.1 _ (List.mem_of_getElem? hG)
  have HMM := Lib.hid (fun V : World => members_c G (G : Int) 0 V rfl hGw)
  have HGL := Lib.hid (fun (V : World) (hb : Below w1.heap.size w1 V) => show Calls Try.prog 6 #[.agg #[.slice s.Ae ne s.ce, .slice s.Ag ng s.cg, .slice s.Ah nh s.ch, .slice s.Au nu s.cu, .slice s.Ar nr s.cr], .int .i64 (k2 : Int)] V (RetL V gn gv) from ruGroup_c s P V ne ng nh nu nr ((HRD.out.below hb).more hb.size) HWD.out HNE.out HNG.out HNH.out HNU.out HNR.out true (by simp [HRT.out]) (k2 : Int) gn gv hgl)
  have HLA := Lib.hid (fun (V : World) (hb : Below w1.heap.size w1 V) (e m : Nat) (q : Int) (hmq : entLab true P (e : Int) = (m, q)) => show Calls Try.prog 9 #[.agg #[.slice s.Ae ne s.ce, .slice s.Ag ng s.cg, .slice s.Ah nh s.ch, .slice s.Au nu s.cu, .slice s.Ar nr s.cr], .int .i64 (e : Int)] V (RetL V m q) from ruLabel_c s P V ne ng nh nu nr ((HRD.out.below hb).more hb.size) HWD.out HNE.out HNG.out HNH.out HNU.out HNR.out true (by simp [HRT.out]) (e : Int) m q hmq)
  have HSE := Lib.hid (fun (V : World) (hb : Below w1.heap.size w1 V) (a : Nat) (u : Int) (ha : a < 18446744073709551616) (q : Bool) (hq : seesB true P (k1 : Int) a u = q) => show Calls Try.prog 8 #[.agg #[.slice s.Ae ne s.ce, .slice s.Ag ng s.cg, .slice s.Ah nh s.ch, .slice s.Au nu s.cu, .slice s.Ar nr s.cr], .int .i64 (k1 : Int), .agg #[.int .u64 (a : Int), .int .i64 u]] V (RetB V q) from ruSees_c s P V ne ng nh nu nr ((HRD.out.below hb).more hb.size) HWD.out HNE.out HNG.out HNH.out HNU.out HNR.out true (by simp [HRT.out]) (k1 : Int) a u ha q hq)
  have HSG := Lib.hid (fun (V : World) (hb : Below w1.heap.size w1 V) => HSE.out V hb gn gv (by omega) σ hσ)
  have HSM := Lib.hid (fun (e m : Nat) (q : Int) (he : e ∈ memL G) (hm : entLab true P (e : Int) = (m, q)) (h : σ = true) => sees_mem (k := (k1 : Int)) HQ.out he hm (hσ.trans h))
  have HX := Lib.hid hx
  have HSX := Lib.hid hσ
  obtain ⟨gG, oG, hA, hgG, hcG⟩ := rd_u HRD.out.2.1 (by rw [HNG.out]; omega) hG
  have HCG := Lib.hid hcG
  have HAg := Lib.hid hA
  clear hx hG hgl hσ hGn hA hcG
  go_wp2_with fail
  rw [HW2.out, HGP.out]
  (with_reducible refine (HK1.out _).mono ?_)
  rintro e w' ⟨rfl, rfl⟩
  clear HW2
  obtain ⟨l2, y0, y1, y2, y3, y4⟩ := HP2.out.cells
  go_wp2_with fail
  (with_reducible refine (HK2.out _).mono ?_)
  rintro e w' ⟨rfl, rfl⟩
  go_wp2_with fail
  (with_reducible refine (HGL.out _ HX2.out).mono ?_)
  rintro e w3 ⟨rfl, hb⟩
  have HX3 := Lib.hid (HX2.out.trans (hb.mono HX2.out.size))
  have HP3 := Lib.hid (show PolBl w3 gp s ne ng nh nu nr from Blk.below HP2.out hb (Blk.lt HP2.out))
  clear hb l2 y0 y1 y2 y3 y4
  obtain ⟨gg, hgg⟩ : ∃ g, w3.heap.size = g := ⟨_, rfl⟩
  obtain ⟨W5, hW5⟩ : ∃ V, (w3.alloc (.cells #[.int .u64 (gn : Int), .int .i64 gv] 33)).alloc (.cells #[.int .u64 0, .int .i64 0] 33) = V := ⟨_, rfl⟩
  have HGB := Lib.hid (show Blk W5 gg 33 #[.int .u64 (gn : Int), .int .i64 gv] from by rw [← hW5, ← hgg]; exact (Blk.new _ _ _).alloc _)
  have HJB := Lib.hid (show Blk W5 (gg + 1) 33 #[.int .u64 0, .int .i64 0] from by rw [← hW5, ← hgg]; have h := Blk.new (w3.alloc (.cells #[.int .u64 (gn : Int), .int .i64 gv] 33)) 33 #[.int .u64 0, .int .i64 0]; simpa using h)
  have HX5 := Lib.hid (show Below w1.heap.size w1 W5 from by rw [← hW5]; exact bel_alloc (bel_alloc HX3.out _) _)
  have HP5 := Lib.hid (show PolBl W5 gp s ne ng nh nu nr from by rw [← hW5]; exact (Blk.alloc HP3.out _).alloc _)
  have hgpg : gp < gg := by rw [← hgg]; exact Blk.lt HP3.out
  have HW5 := Lib.hid hW5
  have HGG := Lib.hid hgg
  clear hW5 hgg
  go_upto_region 6 with fail
  rw [HGG.out, HW5.out]
  clear HW5
  obtain ⟨l2, y0, y1, y2, y3, y4⟩ := HP5.out.cells
  rw [HAg.out] at y1
  have zG : W5.cell? ⟨gG, oG + k2, none⟩ = some (.int .u64 (G : Int)) := (HX5.out.cell (p := ⟨gG, oG + k2, none⟩) hgG).trans HCG.out
  go_wp2_with fail
  (with_reducible refine (HMM.out _).mono ?_)
  rintro e W6 ⟨A, c, rfl, hN, hb⟩
  obtain ⟨L, hL⟩ : ∃ L, memL G = L := ⟨_, rfl⟩
  have HLL := Lib.hid hL
  have hL8 : L.length ≤ 8 := by rw [← hL]; exact memL_le G
  rw [hL] at hN HQ
  rw [hL]
  have HN6 := Lib.hid hN
  have HP6 := Lib.hid (show PolBl W6 gp s ne ng nh nu nr from Blk.below HP5.out hb (Blk.lt HP5.out))
  have HG6 := Lib.hid (HGB.out.below hb HGB.out.lt)
  have HJ6 := Lib.hid (HJB.out.below hb HJB.out.lt)
  have HX6 := Lib.hid (HX5.out.trans (hb.mono HX5.out.size))
  clear hb hN hL l2 y0 y1 y2 y3 y4 zG
  go_wp2
  go_loopw [42] (fun i wr => GrpRel2 W6 A (gg + 1) P L i wr) (fun i _ => L.length - (intOf i).toNat)
  case atStart => exact ⟨0, by omega, rfl, HJ6.out, HN6.out, Below.refl _ _⟩
  case round =>
    obtain ⟨j, hj, rfl, hC, hN, hb⟩ := hrel
    have HCr := Lib.hid hC
    have HNr := Lib.hid hN
    have hgj6 : gg + 1 ≤ W6.heap.size := Nat.le_of_lt HJ6.out.lt
    have hw1g : w1.heap.size ≤ gg + 1 := by have := HGP.out; omega
    have HPr := Lib.hid (show PolBl wr gp s ne ng nh nu nr from Blk.below HP6.out hb (by omega))
    have HGr := Lib.hid (HG6.out.below hb (by omega))
    have HXr := Lib.hid (HX6.out.trans (hb.mono hw1g))
    have HBB := Lib.hid hb
    clear hC hN hb
    obtain ⟨a, ha⟩ : ∃ a, (joinL true P (L.take j)).1 = a := ⟨_, rfl⟩
    obtain ⟨u, hu⟩ : ∃ u, (joinL true P (L.take j)).2 = u := ⟨_, rfl⟩
    have hal := joinL_lt true P (L.take j)
    rw [ha] at hal
    rw [ha, hu] at HCr
    have HA := Lib.hid ha
    have HU := Lib.hid hu
    clear ha hu
    by_cases hlt : j < L.length
    · have hlt' : (j : Int) < (L.length : Int) := by omega
      obtain ⟨e, he⟩ := get_at hlt
      obtain ⟨gm, rfl, hgm, hcm⟩ := HNr.out.lt j hlt
      have hLj : L[j] = e := (List.getElem?_eq_some_iff.1 he).2
      rw [hLj] at hcm
      have hmem : e ∈ memL G := by rw [HLL.out]; exact List.mem_of_getElem? he
      have he7 := memL_lt hmem
      have hen : e < ne := by
        rcases Nat.lt_or_ge e ne with h | h
        · exact h
        · have hb := (memL_mem.1 hmem).2
          rw [Nat.testBit_lt_two_pow (Nat.lt_of_lt_of_le HGN.out (Nat.pow_le_pow_right (by decide) h))] at hb
          cases hb
      have hen' : (e : Int) < (ne : Int) := by omega
      obtain ⟨y, hy⟩ := get_at (l := P.ents) (k := e) (by rw [HNE.out]; exact hen)
      have hlv := HLE.out e y hy
      obtain ⟨g1, o1, hA1, hg1, d0, _⟩ := rd_ent HRD.out.1 (by rw [HNE.out]; omega) hy
      obtain ⟨lv, sc, pa, sh⟩ := y
      dsimp only at d0
      obtain ⟨m, q, hmq⟩ : ∃ m q, entLab true P (e : Int) = (m, q) := ⟨_, _, rfl⟩
      have hml := entLab_lt true P (e : Int)
      rw [hmq] at hml
      dsimp only at hml
      obtain rfl : lv = q := by
        have h := hmq
        unfold entLab at h
        rw [if_pos ⟨rfl, by omega, by rw [HNE.out]; exact hen'⟩, Int.toNat_natCast, hy] at h
        injection h with h1 h2
        rw [← h2]
        have h1 : 0 ≤ lv ∧ lv ≤ 3 := ⟨hlv.1, hlv.2.1⟩
        show lv = min (max lv 0) 3
        omega
      have hsm := HSM.out e m lv hmem hmq
      have HLe := Lib.hid (fun (V : World) (hb : Below w1.heap.size w1 V) => HLA.out V hb e m lv hmq)
      have HMQ := Lib.hid hmq
      have HE := Lib.hid he
      have HA1 := Lib.hid hA1
      have HD0 := Lib.hid d0
      obtain ⟨t, ht⟩ : ∃ t, max u lv = t := ⟨_, rfl⟩
      have HJ := Lib.hid (fun V : World => by have h := join_c a m (a : Int) (m : Int) u lv V rfl rfl (by omega) (by omega); rw [ht] at h; exact h)
      have HT := Lib.hid ht
      have he0 : (0 : Int) ≤ (e : Int) := by omega
      have hgW : g1 < wr.heap.size := by have := HXr.out.size; omega
      clear hmq ht hA1 d0 he hmem hLj hy hlv
      go_upto_region 9 with fail
      clear hcm
      cases σ
      · skip
        clear hsm
        refine wp_region_det (S := fun V => Below wr.heap.size wr V) (by kernel_rfl) (Below.refl wr.heap.size wr).drew ?_
        refine det_take (v := ?_) (i := 0) (fuel := 25) (by simp; rfl) (by kernel_rfl) (by kernel_rfl) (by kernel_rfl) (Or.inl ⟨by rfl, fun w' hS => Or.inl ⟨w', ?_, hS⟩⟩) ?_
        rotate_left
        · obtain ⟨l2, y0, y1, y2, y3, y4⟩ := PolBl.cells (Blk.below HPr.out hS (Blk.lt HPr.out))
          go_simp
          all_goals with_reducible rfl
        simp only [Act.put, List.setIfInBounds_toArray, List.set_cons_zero, List.set_cons_succ]
        refine det_take (v := ?_) (i := 1) (fuel := 24) (by simp; rfl) (by kernel_rfl) (by kernel_rfl) (by kernel_rfl) (Or.inl ⟨by rfl, fun w' hS => Or.inl ⟨w', ?_, hS⟩⟩) ?_
        rotate_left
        · go_simp
          all_goals with_reducible rfl
        simp only [Act.put, List.setIfInBounds_toArray, List.set_cons_zero, List.set_cons_succ]
        refine det_take (v := ?_) (i := 2) (fuel := 23) (by simp; rfl) (by kernel_rfl) (by kernel_rfl) (by kernel_rfl) (Or.inl ⟨by rfl, fun w' hS => Or.inl ⟨w', ?_, hS⟩⟩) ?_
        rotate_left
        · have z0 : w'.cell? ⟨gg, 0, none⟩ = some (.int .u64 (gn : Int)) := ((HGr.out.below hS HGr.out.lt).cell 0).trans rfl
          have z1 : w'.cell? ⟨gg, 1, none⟩ = some (.int .i64 gv) := ((HGr.out.below hS HGr.out.lt).cell 1).trans rfl
          have zl := (HGr.out.below hS HGr.out.lt).lt
          go_simp
          all_goals with_reducible rfl
        simp only [Act.put, List.setIfInBounds_toArray, List.set_cons_zero, List.set_cons_succ]
        refine det_take (v := ?_) (i := 3) (fuel := 22) (by simp; rfl) (by kernel_rfl) (by kernel_rfl) (by kernel_rfl) (Or.inl ⟨by rfl, fun w' hS => Or.inr ⟨8, #[.agg #[.slice s.Ae ne s.ce, .slice s.Ag ng s.cg, .slice s.Ah nh s.ch, .slice s.Au nu s.cu, .slice s.Ar nr s.cr], .int .i64 (k1 : Int), .agg #[.int .u64 (gn : Int), .int .i64 gv]], w', ?_, ?_⟩⟩) ?_
        rotate_left
        · go_simp
          all_goals with_reducible rfl
        · exact (HSG.out w' (HXr.out.trans (hS.mono HXr.out.size))).mono fun e w2 h => ⟨by rw [h.1], hS.trans (h.2.mono hS.size)⟩
        simp only [Act.put, List.setIfInBounds_toArray, List.set_cons_zero, List.set_cons_succ]
        refine det_take (v := ?_) (i := 4) (fuel := 21) (by simp; rfl) (by kernel_rfl) (by kernel_rfl) (by kernel_rfl) (Or.inl ⟨by rfl, fun w' hS => Or.inl ⟨w', ?_, hS⟩⟩) ?_
        rotate_left
        · go_simp
          all_goals with_reducible rfl
        simp only [Act.put, List.setIfInBounds_toArray, List.set_cons_zero, List.set_cons_succ]
        refine det_take (v := undef) (i := 5) (fuel := 20) (by simp; rfl) (by kernel_rfl) (by kernel_rfl) (by kernel_rfl) (Or.inr ⟨by rfl, by rfl⟩) ?_
        simp only [Act.put, List.setIfInBounds_toArray, List.set_cons_zero, List.set_cons_succ]
        refine det_take (v := undef) (i := 6) (fuel := 19) (by simp; rfl) (by kernel_rfl) (by kernel_rfl) (by kernel_rfl) (Or.inr ⟨by rfl, by rfl⟩) ?_
        simp only [Act.put, List.setIfInBounds_toArray, List.set_cons_zero, List.set_cons_succ]
        refine det_take (v := undef) (i := 7) (fuel := 18) (by simp; rfl) (by kernel_rfl) (by kernel_rfl) (by kernel_rfl) (Or.inr ⟨by rfl, by rfl⟩) ?_
        simp only [Act.put, List.setIfInBounds_toArray, List.set_cons_zero, List.set_cons_succ]
        refine det_take (v := undef) (i := 8) (fuel := 17) (by simp; rfl) (by kernel_rfl) (by kernel_rfl) (by kernel_rfl) (Or.inr ⟨by rfl, by rfl⟩) ?_
        simp only [Act.put, List.setIfInBounds_toArray, List.set_cons_zero, List.set_cons_succ]
        refine det_take (v := undef) (i := 9) (fuel := 16) (by simp; rfl) (by kernel_rfl) (by kernel_rfl) (by kernel_rfl) (Or.inr ⟨by rfl, by rfl⟩) ?_
        simp only [Act.put, List.setIfInBounds_toArray, List.set_cons_zero, List.set_cons_succ]
        refine det_take (v := undef) (i := 10) (fuel := 15) (by simp; rfl) (by kernel_rfl) (by kernel_rfl) (by kernel_rfl) (Or.inr ⟨by rfl, by rfl⟩) ?_
        simp only [Act.put, List.setIfInBounds_toArray, List.set_cons_zero, List.set_cons_succ]
        refine det_take (v := undef) (i := 11) (fuel := 14) (by simp; rfl) (by kernel_rfl) (by kernel_rfl) (by kernel_rfl) (Or.inr ⟨by rfl, by rfl⟩) ?_
        simp only [Act.put, List.setIfInBounds_toArray, List.set_cons_zero, List.set_cons_succ]
        refine det_take (v := ?_) (i := 12) (fuel := 13) (by simp; rfl) (by kernel_rfl) (by kernel_rfl) (by kernel_rfl) (Or.inl ⟨by rfl, fun w' hS => Or.inl ⟨w', ?_, hS⟩⟩) ?_
        rotate_left
        · go_simp
          all_goals with_reducible rfl
        simp only [Act.put, List.setIfInBounds_toArray, List.set_cons_zero, List.set_cons_succ]
        refine det_take (v := ?_) (i := 13) (fuel := 12) (by simp; rfl) (by kernel_rfl) (by kernel_rfl) (by kernel_rfl) (Or.inl ⟨by rfl, fun w' hS => Or.inl ⟨w', ?_, hS⟩⟩) ?_
        rotate_left
        · go_simp
          all_goals with_reducible rfl
        simp only [Act.put, List.setIfInBounds_toArray, List.set_cons_zero, List.set_cons_succ]
        refine det_take (v := ?_) (i := 14) (fuel := 11) (by simp; rfl) (by kernel_rfl) (by kernel_rfl) (by kernel_rfl) (Or.inl ⟨by rfl, fun w' hS => Or.inl ⟨w', ?_, hS⟩⟩) ?_
        rotate_left
        · obtain ⟨l2, y0, y1, y2, y3, y4⟩ := PolBl.cells (Blk.below HPr.out hS (Blk.lt HPr.out))
          go_simp
          all_goals with_reducible rfl
        simp only [Act.put, List.setIfInBounds_toArray, List.set_cons_zero, List.set_cons_succ]
        refine det_take (v := ?_) (i := 15) (fuel := 10) (by simp; rfl) (by kernel_rfl) (by kernel_rfl) (by kernel_rfl) (Or.inl ⟨by rfl, fun w' hS => Or.inl ⟨w', ?_, hS⟩⟩) ?_
        rotate_left
        · go_simp
          all_goals with_reducible rfl
        simp only [Act.put, List.setIfInBounds_toArray, List.set_cons_zero, List.set_cons_succ]
        refine det_take (v := ?_) (i := 16) (fuel := 9) (by simp; rfl) (by kernel_rfl) (by kernel_rfl) (by kernel_rfl) (Or.inl ⟨by rfl, fun w' hS => Or.inr ⟨9, #[.agg #[.slice s.Ae ne s.ce, .slice s.Ag ng s.cg, .slice s.Ah nh s.ch, .slice s.Au nu s.cu, .slice s.Ar nr s.cr], .int .i64 (e : Int)], w', ?_, ?_⟩⟩) ?_
        rotate_left
        · go_simp
          all_goals with_reducible rfl
        · exact (HLe.out w' (HXr.out.trans (hS.mono HXr.out.size))).mono fun e w2 h => ⟨by rw [h.1], hS.trans (h.2.mono hS.size)⟩
        simp only [Act.put, List.setIfInBounds_toArray, List.set_cons_zero, List.set_cons_succ]
        refine det_take (v := ?_) (i := 17) (fuel := 8) (by simp; rfl) (by kernel_rfl) (by kernel_rfl) (by kernel_rfl) (Or.inl ⟨by rfl, fun w' hS => Or.inl ⟨w', ?_, hS⟩⟩) ?_
        rotate_left
        · go_simp
          all_goals with_reducible rfl
        simp only [Act.put, List.setIfInBounds_toArray, List.set_cons_zero, List.set_cons_succ]
        refine det_take (v := ?_) (i := 18) (fuel := 7) (by simp; rfl) (by kernel_rfl) (by kernel_rfl) (by kernel_rfl) (Or.inl ⟨by rfl, fun w' hS => Or.inl ⟨w', ?_, hS⟩⟩) ?_
        rotate_left
        · obtain ⟨l2, y0, y1, y2, y3, y4⟩ := PolBl.cells (Blk.below HPr.out hS (Blk.lt HPr.out))
          go_simp
          all_goals with_reducible rfl
        simp only [Act.put, List.setIfInBounds_toArray, List.set_cons_zero, List.set_cons_succ]
        refine det_take (v := ?_) (i := 19) (fuel := 6) (by simp; rfl) (by kernel_rfl) (by kernel_rfl) (by kernel_rfl) (Or.inl ⟨by rfl, fun w' hS => Or.inl ⟨w', ?_, hS⟩⟩) ?_
        rotate_left
        · obtain ⟨l2, y0, y1, y2, y3, y4⟩ := PolBl.cells (Blk.below HPr.out hS (Blk.lt HPr.out))
          rw [HA1.out] at y0
          go_simp
          all_goals with_reducible rfl
        simp only [Act.put, List.setIfInBounds_toArray, List.set_cons_zero, List.set_cons_succ]
        refine det_take (v := ?_) (i := 20) (fuel := 5) (by simp; rfl) (by kernel_rfl) (by kernel_rfl) (by kernel_rfl) (Or.inl ⟨by rfl, fun w' hS => Or.inl ⟨w', ?_, hS⟩⟩) ?_
        rotate_left
        · go_simp
          all_goals with_reducible rfl
        simp only [Act.put, List.setIfInBounds_toArray, List.set_cons_zero, List.set_cons_succ]
        refine det_take (v := ?_) (i := 21) (fuel := 4) (by simp; rfl) (by kernel_rfl) (by kernel_rfl) (by kernel_rfl) (Or.inl ⟨by rfl, fun w' hS => Or.inl ⟨w', ?_, hS⟩⟩) ?_
        rotate_left
        · go_simp
          all_goals with_reducible rfl
        simp only [Act.put, List.setIfInBounds_toArray, List.set_cons_zero, List.set_cons_succ]
        refine det_take (v := ?_) (i := 22) (fuel := 3) (by simp; rfl) (by kernel_rfl) (by kernel_rfl) (by kernel_rfl) (Or.inl ⟨by rfl, fun w' hS => Or.inl ⟨w', ?_, hS⟩⟩) ?_
        rotate_left
        · go_simp
          all_goals with_reducible rfl
        simp only [Act.put, List.setIfInBounds_toArray, List.set_cons_zero, List.set_cons_succ]
        refine det_take (v := ?_) (i := 23) (fuel := 2) (by simp; rfl) (by kernel_rfl) (by kernel_rfl) (by kernel_rfl) (Or.inl ⟨by rfl, fun w' hS => Or.inl ⟨w', ?_, hS⟩⟩) ?_
        rotate_left
        · have z1 : w'.cell? ⟨g1, o1 + e * 4, none⟩ = some (.int .i64 lv) := (hS.cell (p := ⟨g1, o1 + e * 4, none⟩) hgW).trans ((HXr.out.cell (p := ⟨g1, o1 + e * 4, none⟩) hg1).trans HD0.out)
          go_simp
          all_goals with_reducible rfl
        simp only [Act.put, List.setIfInBounds_toArray, List.set_cons_zero, List.set_cons_succ]
        refine det_take (v := ?_) (i := 24) (fuel := 1) (by simp; rfl) (by kernel_rfl) (by kernel_rfl) (by kernel_rfl) (Or.inl ⟨by rfl, fun w' hS => Or.inl ⟨w', ?_, hS⟩⟩) ?_
        rotate_left
        · go_simp
          all_goals with_reducible rfl
        simp only [Act.put, List.setIfInBounds_toArray, List.set_cons_zero, List.set_cons_succ]
        refine det_take (v := ?_) (i := 25) (fuel := 0) (by simp; rfl) (by kernel_rfl) (by kernel_rfl) (by kernel_rfl) (Or.inl ⟨by rfl, fun w' hS => Or.inl ⟨w', ?_, hS⟩⟩) ?_
        rotate_left
        · go_simp
          all_goals with_reducible rfl
        simp only [Act.put, List.setIfInBounds_toArray, List.set_cons_zero, List.set_cons_succ]
        refine det_done (by kernel_rfl) (fun V hV => ?_) _
        have HSv := Lib.hid hV
        have HXv := Lib.hid (HXr.out.trans (hV.mono HXr.out.size))
        have HCv := Lib.hid (HCr.out.below hV HCr.out.lt)
        have HPv := Lib.hid (show PolBl V gp s ne ng nh nu nr from Blk.below HPr.out hV (Blk.lt HPr.out))
        clear hV
        go_upto_region 11 with fail
        refine wp_region_ordz (S := fun W => Below V.heap.size V W) (z := 5) (by kernel_rfl) ?_
        refine ordz_take (v := ?_) (i := 0) (fuel := 5) (by simp; rfl) (by kernel_rfl) (by kernel_rfl) (by kernel_rfl) (by kernel_rfl) (Or.inl ⟨by rfl, fun w' hSw => ?_⟩) (Below.refl V.heap.size V).drew ?_
        rotate_left
        · have z0 : w'.cell? ⟨gg + 1, 0, none⟩ = some (.int .u64 (a : Int)) := ((HCv.out.below hSw HCv.out.lt).cell 0).trans rfl
          have z1 : w'.cell? ⟨gg + 1, 1, none⟩ = some (.int .i64 u) := ((HCv.out.below hSw HCv.out.lt).cell 1).trans rfl
          have zl := (HCv.out.below hSw HCv.out.lt).lt
          go_simp
          all_goals with_reducible rfl
        simp only [Act.put, List.setIfInBounds_toArray, List.set_cons_zero, List.set_cons_succ]
        refine ordz_take (v := ?_) (i := 1) (fuel := 4) (by simp; rfl) (by kernel_rfl) (by kernel_rfl) (by kernel_rfl) (by kernel_rfl) (Or.inl ⟨by rfl, fun w' hSw => ?_⟩) (Below.refl V.heap.size V).drew ?_
        rotate_left
        · obtain ⟨l2, y0, y1, y2, y3, y4⟩ := PolBl.cells (Blk.below HPv.out hSw (Blk.lt HPv.out))
          go_simp
          all_goals with_reducible rfl
        simp only [Act.put, List.setIfInBounds_toArray, List.set_cons_zero, List.set_cons_succ]
        refine ordz_take (v := ?_) (i := 2) (fuel := 3) (by simp; rfl) (by kernel_rfl) (by kernel_rfl) (by kernel_rfl) (by kernel_rfl) (Or.inl ⟨by rfl, fun w' hSw => ?_⟩) (Below.refl V.heap.size V).drew ?_
        rotate_left
        · go_simp
          all_goals with_reducible rfl
        simp only [Act.put, List.setIfInBounds_toArray, List.set_cons_zero, List.set_cons_succ]
        refine ordz_call (f := 9) (args := #[.agg #[.slice s.Ae ne s.ce, .slice s.Ag ng s.cg, .slice s.Ah nh s.ch, .slice s.Au nu s.cu, .slice s.Ar nr s.cr], .int .i64 (e : Int)]) (w1 := V.drew) (i := 3) (fuel := 2) (by simp; rfl) (by kernel_rfl) (by rfl) ?_ ?_
        · go_simp
          all_goals with_reducible rfl
        (with_reducible refine (HLe.out _ (HXv.out.trans ((Below.refl V.heap.size V).drew.mono HXv.out.size))).mono ?_)
        rintro e5 w5 ⟨rfl, hb⟩
        have HS5 := Lib.hid (show Below V.heap.size V w5 from (Below.refl V.heap.size V).drew.trans (hb.mono (Nat.le_refl _)))
        clear hb
        refine ⟨_, rfl, .inr HS5.out, ?_⟩
        simp only [Act.put, List.setIfInBounds_toArray, List.set_cons_zero, List.set_cons_succ]
        refine ordz_call (f := 10) (args := #[.agg #[.int .u64 (a : Int), .int .i64 u], .agg #[.int .u64 (m : Int), .int .i64 lv]]) (w1 := w5) (i := 4) (fuel := 1) (by simp; rfl) (by kernel_rfl) (by rfl) ?_ ?_
        · go_simp
          all_goals with_reducible rfl
        (with_reducible refine (HJ.out _).mono ?_)
        rintro e6 w6 ⟨rfl, hb⟩
        have HS6 := Lib.hid (HS5.out.trans (hb.mono HS5.out.size))
        clear hb
        refine ⟨_, rfl, .inr HS6.out, ?_⟩
        simp only [Act.put, List.setIfInBounds_toArray, List.set_cons_zero, List.set_cons_succ]
        have HC6 := Lib.hid (HCv.out.below HS6.out HCv.out.lt)
        have c0' : w6.cell? ⟨gg + 1, 0, none⟩ = some (.int .u64 (a : Int)) := (HC6.out.cell 0).trans rfl
        have c1' : w6.cell? ⟨gg + 1, 1, none⟩ = some (.int .i64 u) := (HC6.out.cell 1).trans rfl
        have cl := HC6.out.lt
        have g0 := HC6.out.frozen 0
        have g1f := HC6.out.frozen 1
        obtain ⟨am, ham⟩ : ∃ am, a ||| m = am := ⟨_, rfl⟩
        rw [ham]
        have HAM := Lib.hid ham
        clear ham
        refine ordz_skip (w' := (w6.setCell ⟨gg + 1, 0, none⟩ (.int .u64 (am : Int))).setCell ⟨gg + 1, 1, none⟩ (.int .i64 t)) (i := 5) (fuel := 0) (by simp; rfl) (by kernel_rfl) (by rfl) (by rfl) ?_ (.inl rfl) ?_
        · go_simp
          all_goals with_reducible rfl
        refine ordz_done (by kernel_rfl) ?_ _
        obtain ⟨W7, hW7⟩ : ∃ V, (w6.setCell ⟨gg + 1, 0, none⟩ (.int .u64 (am : Int))).setCell ⟨gg + 1, 1, none⟩ (.int .i64 t) = V := ⟨_, rfl⟩
        have HC7 := Lib.hid (show Blk W7 (gg + 1) 33 #[.int .u64 (am : Int), .int .i64 t] from by rw [← hW7]; have h := (HC6.out.set_ 0 (.int .u64 (am : Int))).set_ 1 (.int .i64 t); simpa using h)
        have HB7 := Lib.hid (show Below (gg + 1) W6 W7 from by rw [← hW7]; exact (((HBB.out.trans (HSv.out.mono (Nat.le_of_lt HCr.out.lt))).trans (HS6.out.mono (Nat.le_of_lt HCv.out.lt))).setCell (p := ⟨gg + 1, 0, none⟩) (Nat.le_refl _) _).setCell (p := ⟨gg + 1, 1, none⟩) (Nat.le_refl _) _)
        have HN7 := Lib.hid (show NsA W7 (some ⟨gm, 0, none⟩) L from by rw [← hW7]; exact (((HNr.out.below HSv.out).below HS6.out).set_ HC6.out (by decide) _).set_ (HC6.out.set_ 0 _) (by decide) _)
        rw [hW7]
        clear hW7 c0' c1' cl g0 g1f
        go_wp2
        go_roundw
        case rel => exact ⟨j + 1, by omega, by go_num, by rw [joinL_next HE.out, HA.out, HU.out, HMQ.out, show a ||| m = am from HAM.out, show max u lv = t from HT.out]; exact HC7.out, HN7.out, HB7.out⟩
        case measure => simp [intOf]; omega
      · skip
        have HSm := Lib.hid (fun (V : World) (hb : Below w1.heap.size w1 V) => HSE.out V hb m lv (by omega) true (hsm rfl))
        clear hsm
        refine wp_region_det (S := fun V => Below wr.heap.size wr V) (by kernel_rfl) (Below.refl wr.heap.size wr).drew ?_
        refine det_take (v := ?_) (i := 0) (fuel := 25) (by simp; rfl) (by kernel_rfl) (by kernel_rfl) (by kernel_rfl) (Or.inl ⟨by rfl, fun w' hS => Or.inl ⟨w', ?_, hS⟩⟩) ?_
        rotate_left
        · obtain ⟨l2, y0, y1, y2, y3, y4⟩ := PolBl.cells (Blk.below HPr.out hS (Blk.lt HPr.out))
          go_simp
          all_goals with_reducible rfl
        simp only [Act.put, List.setIfInBounds_toArray, List.set_cons_zero, List.set_cons_succ]
        refine det_take (v := ?_) (i := 1) (fuel := 24) (by simp; rfl) (by kernel_rfl) (by kernel_rfl) (by kernel_rfl) (Or.inl ⟨by rfl, fun w' hS => Or.inl ⟨w', ?_, hS⟩⟩) ?_
        rotate_left
        · go_simp
          all_goals with_reducible rfl
        simp only [Act.put, List.setIfInBounds_toArray, List.set_cons_zero, List.set_cons_succ]
        refine det_take (v := ?_) (i := 2) (fuel := 23) (by simp; rfl) (by kernel_rfl) (by kernel_rfl) (by kernel_rfl) (Or.inl ⟨by rfl, fun w' hS => Or.inl ⟨w', ?_, hS⟩⟩) ?_
        rotate_left
        · have z0 : w'.cell? ⟨gg, 0, none⟩ = some (.int .u64 (gn : Int)) := ((HGr.out.below hS HGr.out.lt).cell 0).trans rfl
          have z1 : w'.cell? ⟨gg, 1, none⟩ = some (.int .i64 gv) := ((HGr.out.below hS HGr.out.lt).cell 1).trans rfl
          have zl := (HGr.out.below hS HGr.out.lt).lt
          go_simp
          all_goals with_reducible rfl
        simp only [Act.put, List.setIfInBounds_toArray, List.set_cons_zero, List.set_cons_succ]
        refine det_take (v := ?_) (i := 3) (fuel := 22) (by simp; rfl) (by kernel_rfl) (by kernel_rfl) (by kernel_rfl) (Or.inl ⟨by rfl, fun w' hS => Or.inr ⟨8, #[.agg #[.slice s.Ae ne s.ce, .slice s.Ag ng s.cg, .slice s.Ah nh s.ch, .slice s.Au nu s.cu, .slice s.Ar nr s.cr], .int .i64 (k1 : Int), .agg #[.int .u64 (gn : Int), .int .i64 gv]], w', ?_, ?_⟩⟩) ?_
        rotate_left
        · go_simp
          all_goals with_reducible rfl
        · exact (HSG.out w' (HXr.out.trans (hS.mono HXr.out.size))).mono fun e w2 h => ⟨by rw [h.1], hS.trans (h.2.mono hS.size)⟩
        simp only [Act.put, List.setIfInBounds_toArray, List.set_cons_zero, List.set_cons_succ]
        refine det_take (v := ?_) (i := 4) (fuel := 21) (by simp; rfl) (by kernel_rfl) (by kernel_rfl) (by kernel_rfl) (Or.inl ⟨by rfl, fun w' hS => Or.inl ⟨w', ?_, hS⟩⟩) ?_
        rotate_left
        · go_simp
          all_goals with_reducible rfl
        simp only [Act.put, List.setIfInBounds_toArray, List.set_cons_zero, List.set_cons_succ]
        refine det_take (v := ?_) (i := 5) (fuel := 20) (by simp; rfl) (by kernel_rfl) (by kernel_rfl) (by kernel_rfl) (Or.inl ⟨by rfl, fun w' hS => Or.inl ⟨w', ?_, hS⟩⟩) ?_
        rotate_left
        · obtain ⟨l2, y0, y1, y2, y3, y4⟩ := PolBl.cells (Blk.below HPr.out hS (Blk.lt HPr.out))
          go_simp
          all_goals with_reducible rfl
        simp only [Act.put, List.setIfInBounds_toArray, List.set_cons_zero, List.set_cons_succ]
        refine det_take (v := ?_) (i := 6) (fuel := 19) (by simp; rfl) (by kernel_rfl) (by kernel_rfl) (by kernel_rfl) (Or.inl ⟨by rfl, fun w' hS => Or.inl ⟨w', ?_, hS⟩⟩) ?_
        rotate_left
        · go_simp
          all_goals with_reducible rfl
        simp only [Act.put, List.setIfInBounds_toArray, List.set_cons_zero, List.set_cons_succ]
        refine det_take (v := ?_) (i := 7) (fuel := 18) (by simp; rfl) (by kernel_rfl) (by kernel_rfl) (by kernel_rfl) (Or.inl ⟨by rfl, fun w' hS => Or.inl ⟨w', ?_, hS⟩⟩) ?_
        rotate_left
        · obtain ⟨l2, y0, y1, y2, y3, y4⟩ := PolBl.cells (Blk.below HPr.out hS (Blk.lt HPr.out))
          go_simp
          all_goals with_reducible rfl
        simp only [Act.put, List.setIfInBounds_toArray, List.set_cons_zero, List.set_cons_succ]
        refine det_take (v := ?_) (i := 8) (fuel := 17) (by simp; rfl) (by kernel_rfl) (by kernel_rfl) (by kernel_rfl) (Or.inl ⟨by rfl, fun w' hS => Or.inl ⟨w', ?_, hS⟩⟩) ?_
        rotate_left
        · go_simp
          all_goals with_reducible rfl
        simp only [Act.put, List.setIfInBounds_toArray, List.set_cons_zero, List.set_cons_succ]
        refine det_take (v := ?_) (i := 9) (fuel := 16) (by simp; rfl) (by kernel_rfl) (by kernel_rfl) (by kernel_rfl) (Or.inl ⟨by rfl, fun w' hS => Or.inr ⟨9, #[.agg #[.slice s.Ae ne s.ce, .slice s.Ag ng s.cg, .slice s.Ah nh s.ch, .slice s.Au nu s.cu, .slice s.Ar nr s.cr], .int .i64 (e : Int)], w', ?_, ?_⟩⟩) ?_
        rotate_left
        · go_simp
          all_goals with_reducible rfl
        · exact (HLe.out w' (HXr.out.trans (hS.mono HXr.out.size))).mono fun e w2 h => ⟨by rw [h.1], hS.trans (h.2.mono hS.size)⟩
        simp only [Act.put, List.setIfInBounds_toArray, List.set_cons_zero, List.set_cons_succ]
        refine det_take (v := ?_) (i := 10) (fuel := 15) (by simp; rfl) (by kernel_rfl) (by kernel_rfl) (by kernel_rfl) (Or.inl ⟨by rfl, fun w' hS => Or.inr ⟨8, #[.agg #[.slice s.Ae ne s.ce, .slice s.Ag ng s.cg, .slice s.Ah nh s.ch, .slice s.Au nu s.cu, .slice s.Ar nr s.cr], .int .i64 (k1 : Int), .agg #[.int .u64 (m : Int), .int .i64 lv]], w', ?_, ?_⟩⟩) ?_
        rotate_left
        · go_simp
          all_goals with_reducible rfl
        · exact (HSm.out w' (HXr.out.trans (hS.mono HXr.out.size))).mono fun e w2 h => ⟨by rw [h.1], hS.trans (h.2.mono hS.size)⟩
        simp only [Act.put, List.setIfInBounds_toArray, List.set_cons_zero, List.set_cons_succ]
        refine det_take (v := ?_) (i := 11) (fuel := 14) (by simp; rfl) (by kernel_rfl) (by kernel_rfl) (by kernel_rfl) (Or.inl ⟨by rfl, fun w' hS => Or.inl ⟨w', ?_, hS⟩⟩) ?_
        rotate_left
        · go_simp
          all_goals with_reducible rfl
        simp only [Act.put, List.setIfInBounds_toArray, List.set_cons_zero, List.set_cons_succ]
        refine det_take (v := ?_) (i := 12) (fuel := 13) (by simp; rfl) (by kernel_rfl) (by kernel_rfl) (by kernel_rfl) (Or.inl ⟨by rfl, fun w' hS => Or.inl ⟨w', ?_, hS⟩⟩) ?_
        rotate_left
        · go_simp
          all_goals with_reducible rfl
        simp only [Act.put, List.setIfInBounds_toArray, List.set_cons_zero, List.set_cons_succ]
        refine det_take (v := ?_) (i := 13) (fuel := 12) (by simp; rfl) (by kernel_rfl) (by kernel_rfl) (by kernel_rfl) (Or.inl ⟨by rfl, fun w' hS => Or.inl ⟨w', ?_, hS⟩⟩) ?_
        rotate_left
        · go_simp
          all_goals with_reducible rfl
        simp only [Act.put, List.setIfInBounds_toArray, List.set_cons_zero, List.set_cons_succ]
        refine det_take (v := ?_) (i := 14) (fuel := 11) (by simp; rfl) (by kernel_rfl) (by kernel_rfl) (by kernel_rfl) (Or.inl ⟨by rfl, fun w' hS => Or.inl ⟨w', ?_, hS⟩⟩) ?_
        rotate_left
        · obtain ⟨l2, y0, y1, y2, y3, y4⟩ := PolBl.cells (Blk.below HPr.out hS (Blk.lt HPr.out))
          go_simp
          all_goals with_reducible rfl
        simp only [Act.put, List.setIfInBounds_toArray, List.set_cons_zero, List.set_cons_succ]
        refine det_take (v := ?_) (i := 15) (fuel := 10) (by simp; rfl) (by kernel_rfl) (by kernel_rfl) (by kernel_rfl) (Or.inl ⟨by rfl, fun w' hS => Or.inl ⟨w', ?_, hS⟩⟩) ?_
        rotate_left
        · go_simp
          all_goals with_reducible rfl
        simp only [Act.put, List.setIfInBounds_toArray, List.set_cons_zero, List.set_cons_succ]
        refine det_take (v := ?_) (i := 16) (fuel := 9) (by simp; rfl) (by kernel_rfl) (by kernel_rfl) (by kernel_rfl) (Or.inl ⟨by rfl, fun w' hS => Or.inr ⟨9, #[.agg #[.slice s.Ae ne s.ce, .slice s.Ag ng s.cg, .slice s.Ah nh s.ch, .slice s.Au nu s.cu, .slice s.Ar nr s.cr], .int .i64 (e : Int)], w', ?_, ?_⟩⟩) ?_
        rotate_left
        · go_simp
          all_goals with_reducible rfl
        · exact (HLe.out w' (HXr.out.trans (hS.mono HXr.out.size))).mono fun e w2 h => ⟨by rw [h.1], hS.trans (h.2.mono hS.size)⟩
        simp only [Act.put, List.setIfInBounds_toArray, List.set_cons_zero, List.set_cons_succ]
        refine det_take (v := ?_) (i := 17) (fuel := 8) (by simp; rfl) (by kernel_rfl) (by kernel_rfl) (by kernel_rfl) (Or.inl ⟨by rfl, fun w' hS => Or.inl ⟨w', ?_, hS⟩⟩) ?_
        rotate_left
        · go_simp
          all_goals with_reducible rfl
        simp only [Act.put, List.setIfInBounds_toArray, List.set_cons_zero, List.set_cons_succ]
        refine det_take (v := ?_) (i := 18) (fuel := 7) (by simp; rfl) (by kernel_rfl) (by kernel_rfl) (by kernel_rfl) (Or.inl ⟨by rfl, fun w' hS => Or.inl ⟨w', ?_, hS⟩⟩) ?_
        rotate_left
        · obtain ⟨l2, y0, y1, y2, y3, y4⟩ := PolBl.cells (Blk.below HPr.out hS (Blk.lt HPr.out))
          go_simp
          all_goals with_reducible rfl
        simp only [Act.put, List.setIfInBounds_toArray, List.set_cons_zero, List.set_cons_succ]
        refine det_take (v := ?_) (i := 19) (fuel := 6) (by simp; rfl) (by kernel_rfl) (by kernel_rfl) (by kernel_rfl) (Or.inl ⟨by rfl, fun w' hS => Or.inl ⟨w', ?_, hS⟩⟩) ?_
        rotate_left
        · obtain ⟨l2, y0, y1, y2, y3, y4⟩ := PolBl.cells (Blk.below HPr.out hS (Blk.lt HPr.out))
          rw [HA1.out] at y0
          go_simp
          all_goals with_reducible rfl
        simp only [Act.put, List.setIfInBounds_toArray, List.set_cons_zero, List.set_cons_succ]
        refine det_take (v := ?_) (i := 20) (fuel := 5) (by simp; rfl) (by kernel_rfl) (by kernel_rfl) (by kernel_rfl) (Or.inl ⟨by rfl, fun w' hS => Or.inl ⟨w', ?_, hS⟩⟩) ?_
        rotate_left
        · go_simp
          all_goals with_reducible rfl
        simp only [Act.put, List.setIfInBounds_toArray, List.set_cons_zero, List.set_cons_succ]
        refine det_take (v := ?_) (i := 21) (fuel := 4) (by simp; rfl) (by kernel_rfl) (by kernel_rfl) (by kernel_rfl) (Or.inl ⟨by rfl, fun w' hS => Or.inl ⟨w', ?_, hS⟩⟩) ?_
        rotate_left
        · go_simp
          all_goals with_reducible rfl
        simp only [Act.put, List.setIfInBounds_toArray, List.set_cons_zero, List.set_cons_succ]
        refine det_take (v := ?_) (i := 22) (fuel := 3) (by simp; rfl) (by kernel_rfl) (by kernel_rfl) (by kernel_rfl) (Or.inl ⟨by rfl, fun w' hS => Or.inl ⟨w', ?_, hS⟩⟩) ?_
        rotate_left
        · go_simp
          all_goals with_reducible rfl
        simp only [Act.put, List.setIfInBounds_toArray, List.set_cons_zero, List.set_cons_succ]
        refine det_take (v := ?_) (i := 23) (fuel := 2) (by simp; rfl) (by kernel_rfl) (by kernel_rfl) (by kernel_rfl) (Or.inl ⟨by rfl, fun w' hS => Or.inl ⟨w', ?_, hS⟩⟩) ?_
        rotate_left
        · have z1 : w'.cell? ⟨g1, o1 + e * 4, none⟩ = some (.int .i64 lv) := (hS.cell (p := ⟨g1, o1 + e * 4, none⟩) hgW).trans ((HXr.out.cell (p := ⟨g1, o1 + e * 4, none⟩) hg1).trans HD0.out)
          go_simp
          all_goals with_reducible rfl
        simp only [Act.put, List.setIfInBounds_toArray, List.set_cons_zero, List.set_cons_succ]
        refine det_take (v := ?_) (i := 24) (fuel := 1) (by simp; rfl) (by kernel_rfl) (by kernel_rfl) (by kernel_rfl) (Or.inl ⟨by rfl, fun w' hS => Or.inl ⟨w', ?_, hS⟩⟩) ?_
        rotate_left
        · go_simp
          all_goals with_reducible rfl
        simp only [Act.put, List.setIfInBounds_toArray, List.set_cons_zero, List.set_cons_succ]
        refine det_take (v := ?_) (i := 25) (fuel := 0) (by simp; rfl) (by kernel_rfl) (by kernel_rfl) (by kernel_rfl) (Or.inl ⟨by rfl, fun w' hS => Or.inl ⟨w', ?_, hS⟩⟩) ?_
        rotate_left
        · go_simp
          all_goals with_reducible rfl
        simp only [Act.put, List.setIfInBounds_toArray, List.set_cons_zero, List.set_cons_succ]
        refine det_done (by kernel_rfl) (fun V hV => ?_) _
        have HSv := Lib.hid hV
        have HXv := Lib.hid (HXr.out.trans (hV.mono HXr.out.size))
        have HCv := Lib.hid (HCr.out.below hV HCr.out.lt)
        have HPv := Lib.hid (show PolBl V gp s ne ng nh nu nr from Blk.below HPr.out hV (Blk.lt HPr.out))
        clear hV
        go_upto_region 11 with fail
        refine wp_region_ordz (S := fun W => Below V.heap.size V W) (z := 5) (by kernel_rfl) ?_
        refine ordz_take (v := ?_) (i := 0) (fuel := 5) (by simp; rfl) (by kernel_rfl) (by kernel_rfl) (by kernel_rfl) (by kernel_rfl) (Or.inl ⟨by rfl, fun w' hSw => ?_⟩) (Below.refl V.heap.size V).drew ?_
        rotate_left
        · have z0 : w'.cell? ⟨gg + 1, 0, none⟩ = some (.int .u64 (a : Int)) := ((HCv.out.below hSw HCv.out.lt).cell 0).trans rfl
          have z1 : w'.cell? ⟨gg + 1, 1, none⟩ = some (.int .i64 u) := ((HCv.out.below hSw HCv.out.lt).cell 1).trans rfl
          have zl := (HCv.out.below hSw HCv.out.lt).lt
          go_simp
          all_goals with_reducible rfl
        simp only [Act.put, List.setIfInBounds_toArray, List.set_cons_zero, List.set_cons_succ]
        refine ordz_take (v := ?_) (i := 1) (fuel := 4) (by simp; rfl) (by kernel_rfl) (by kernel_rfl) (by kernel_rfl) (by kernel_rfl) (Or.inl ⟨by rfl, fun w' hSw => ?_⟩) (Below.refl V.heap.size V).drew ?_
        rotate_left
        · obtain ⟨l2, y0, y1, y2, y3, y4⟩ := PolBl.cells (Blk.below HPv.out hSw (Blk.lt HPv.out))
          go_simp
          all_goals with_reducible rfl
        simp only [Act.put, List.setIfInBounds_toArray, List.set_cons_zero, List.set_cons_succ]
        refine ordz_take (v := ?_) (i := 2) (fuel := 3) (by simp; rfl) (by kernel_rfl) (by kernel_rfl) (by kernel_rfl) (by kernel_rfl) (Or.inl ⟨by rfl, fun w' hSw => ?_⟩) (Below.refl V.heap.size V).drew ?_
        rotate_left
        · go_simp
          all_goals with_reducible rfl
        simp only [Act.put, List.setIfInBounds_toArray, List.set_cons_zero, List.set_cons_succ]
        refine ordz_call (f := 9) (args := #[.agg #[.slice s.Ae ne s.ce, .slice s.Ag ng s.cg, .slice s.Ah nh s.ch, .slice s.Au nu s.cu, .slice s.Ar nr s.cr], .int .i64 (e : Int)]) (w1 := V.drew) (i := 3) (fuel := 2) (by simp; rfl) (by kernel_rfl) (by rfl) ?_ ?_
        · go_simp
          all_goals with_reducible rfl
        (with_reducible refine (HLe.out _ (HXv.out.trans ((Below.refl V.heap.size V).drew.mono HXv.out.size))).mono ?_)
        rintro e5 w5 ⟨rfl, hb⟩
        have HS5 := Lib.hid (show Below V.heap.size V w5 from (Below.refl V.heap.size V).drew.trans (hb.mono (Nat.le_refl _)))
        clear hb
        refine ⟨_, rfl, .inr HS5.out, ?_⟩
        simp only [Act.put, List.setIfInBounds_toArray, List.set_cons_zero, List.set_cons_succ]
        refine ordz_call (f := 10) (args := #[.agg #[.int .u64 (a : Int), .int .i64 u], .agg #[.int .u64 (m : Int), .int .i64 lv]]) (w1 := w5) (i := 4) (fuel := 1) (by simp; rfl) (by kernel_rfl) (by rfl) ?_ ?_
        · go_simp
          all_goals with_reducible rfl
        (with_reducible refine (HJ.out _).mono ?_)
        rintro e6 w6 ⟨rfl, hb⟩
        have HS6 := Lib.hid (HS5.out.trans (hb.mono HS5.out.size))
        clear hb
        refine ⟨_, rfl, .inr HS6.out, ?_⟩
        simp only [Act.put, List.setIfInBounds_toArray, List.set_cons_zero, List.set_cons_succ]
        have HC6 := Lib.hid (HCv.out.below HS6.out HCv.out.lt)
        have c0' : w6.cell? ⟨gg + 1, 0, none⟩ = some (.int .u64 (a : Int)) := (HC6.out.cell 0).trans rfl
        have c1' : w6.cell? ⟨gg + 1, 1, none⟩ = some (.int .i64 u) := (HC6.out.cell 1).trans rfl
        have cl := HC6.out.lt
        have g0 := HC6.out.frozen 0
        have g1f := HC6.out.frozen 1
        obtain ⟨am, ham⟩ : ∃ am, a ||| m = am := ⟨_, rfl⟩
        rw [ham]
        have HAM := Lib.hid ham
        clear ham
        refine ordz_skip (w' := (w6.setCell ⟨gg + 1, 0, none⟩ (.int .u64 (am : Int))).setCell ⟨gg + 1, 1, none⟩ (.int .i64 t)) (i := 5) (fuel := 0) (by simp; rfl) (by kernel_rfl) (by rfl) (by rfl) ?_ (.inl rfl) ?_
        · go_simp
          all_goals with_reducible rfl
        refine ordz_done (by kernel_rfl) ?_ _
        obtain ⟨W7, hW7⟩ : ∃ V, (w6.setCell ⟨gg + 1, 0, none⟩ (.int .u64 (am : Int))).setCell ⟨gg + 1, 1, none⟩ (.int .i64 t) = V := ⟨_, rfl⟩
        have HC7 := Lib.hid (show Blk W7 (gg + 1) 33 #[.int .u64 (am : Int), .int .i64 t] from by rw [← hW7]; have h := (HC6.out.set_ 0 (.int .u64 (am : Int))).set_ 1 (.int .i64 t); simpa using h)
        have HB7 := Lib.hid (show Below (gg + 1) W6 W7 from by rw [← hW7]; exact (((HBB.out.trans (HSv.out.mono (Nat.le_of_lt HCr.out.lt))).trans (HS6.out.mono (Nat.le_of_lt HCv.out.lt))).setCell (p := ⟨gg + 1, 0, none⟩) (Nat.le_refl _) _).setCell (p := ⟨gg + 1, 1, none⟩) (Nat.le_refl _) _)
        have HN7 := Lib.hid (show NsA W7 (some ⟨gm, 0, none⟩) L from by rw [← hW7]; exact (((HNr.out.below HSv.out).below HS6.out).set_ HC6.out (by decide) _).set_ (HC6.out.set_ 0 _) (by decide) _)
        rw [hW7]
        clear hW7 c0' c1' cl g0 g1f
        go_wp2
        go_roundw
        case rel => exact ⟨j + 1, by omega, by go_num, by rw [joinL_next HE.out, HA.out, HU.out, HMQ.out, show a ||| m = am from HAM.out, show max u lv = t from HT.out]; exact HC7.out, HN7.out, HB7.out⟩
        case measure => simp [intOf]; omega
    · have hlt' : ¬ (j : Int) < (L.length : Int) := by omega
      obtain rfl : j = L.length := by omega
      obtain ⟨rfl, rfl⟩ : gn = a ∧ gv = u := by
        have h := HQ.out
        have h1 := HA.out
        have h2 := HU.out
        rw [List.take_length, h] at h1 h2
        exact ⟨h1, h2⟩
      clear HA HU hal
      obtain ⟨l2, y0, y1, y2, y3, y4⟩ := HPr.out.cells
      go_wp2_with fail
      (with_reducible refine (HK3.out _).mono ?_)
      rintro e w' ⟨rfl, rfl⟩
      have hwr : IntKind.u64.wrap (k3 : Int) = (k3 : Int) := wrapN (by omega)
      go_wp2_with fail
      (with_reducible refine (HK4.out _).mono ?_)
      rintro e w' ⟨rfl, rfl⟩
      obtain ⟨gx, hgx⟩ : ∃ g, wr.heap.size = g := ⟨_, rfl⟩
      obtain ⟨W9, hW9⟩ : ∃ V, (wr.alloc (.cells #[.int .u64 (k3 : Int), .int .i64 (k4 : Int)] 33)).alloc (.cells #[.slice s.Ae ne s.ce, .slice s.Ag ng s.cg, .slice s.Ah nh s.ch, .slice s.Au nu s.cu, .slice s.Ar nr s.cr] 28) = V := ⟨_, rfl⟩
      have HL9 := Lib.hid (show Blk W9 gx 33 #[.int .u64 (k3 : Int), .int .i64 (k4 : Int)] from by rw [← hW9, ← hgx]; exact (Blk.new _ _ _).alloc _)
      have HQ9 := Lib.hid (show Blk W9 (gx + 1) 28 #[.slice s.Ae ne s.ce, .slice s.Ag ng s.cg, .slice s.Ah nh s.ch, .slice s.Au nu s.cu, .slice s.Ar nr s.cr] from by rw [← hW9, ← hgx]; have h := Blk.new (wr.alloc (.cells #[.int .u64 (k3 : Int), .int .i64 (k4 : Int)] 33)) 28 #[.slice s.Ae ne s.ce, .slice s.Ag ng s.cg, .slice s.Ah nh s.ch, .slice s.Au nu s.cu, .slice s.Ar nr s.cr]; simpa using h)
      have HX9 := Lib.hid (show Below w1.heap.size w1 W9 from by rw [← hW9]; exact bel_alloc (bel_alloc HXr.out _) _)
      have HP9 := Lib.hid (show PolBl W9 gp s ne ng nh nu nr from by rw [← hW9]; exact (Blk.alloc HPr.out _).alloc _)
      have HG9 := Lib.hid (show Blk W9 gg 33 #[.int .u64 (gn : Int), .int .i64 gv] from by rw [← hW9]; exact (HGr.out.alloc _).alloc _)
      have HC9 := Lib.hid (show Blk W9 (gg + 1) 33 #[.int .u64 (gn : Int), .int .i64 gv] from by rw [← hW9]; exact (HCr.out.alloc _).alloc _)
      have hggx : gg + 1 < gx := by rw [← hgx]; exact HCr.out.lt
      have HW9 := Lib.hid hW9
      have HGX := Lib.hid hgx
      clear hW9 hgx
      go_upto_region 15 with fail
      rw [HGX.out, HW9.out]
      clear HW9 l2 y0 y1 y2 y3 y4
      obtain ⟨gA, oA, hA⟩ : ∃ g o, s.Ah = some ⟨g, o, none⟩ := by
        obtain ⟨g, o, h, _⟩ := HRD.out.2.2.1 (by rw [HNH.out]; omega)
        exact ⟨g, o, h⟩
      have HAh := Lib.hid hA
      clear hA
      refine wp_region_lit ?_
      obtain ⟨g0, hg0⟩ : ∃ g, W9.heap.size = g := ⟨_, rfl⟩
      obtain ⟨Wa, hWa⟩ : ∃ V, W9.alloc (.cells #[] 41) = V := ⟨_, rfl⟩
      have HSa := Lib.hid (show Below W9.heap.size W9 Wa from by rw [← hWa]; exact bel_alloc (Below.refl _ _) _)
      have HOa := Lib.hid (show Wa.ownsRow W9.heap.size 41 3 (.slice (some ⟨g0, 0, none⟩) 0 0) 0 [] from by rw [← hWa, ← hg0]; exact own_new W9 (B := W9.heap.size) (m := 0) (size := 3) (vs := []) rfl (Nat.le_refl _) rfl (by decide))
      have HWa := Lib.hid hWa
      have HG0 := Lib.hid hg0
      clear hWa hg0
      refine wpL_val (v := .slice (some ⟨g0, 0, none⟩) 0 0) (w' := Wa) rfl ?_ ?_
      · rw [← HWa.out, ← HG0.out]
        go_simp
        all_goals with_reducible rfl
      simp only [Act.put, List.setIfInBounds_toArray, List.set_cons_zero, List.set_cons_succ]
      refine wpL_val (v := ?_) (w' := Wa) rfl ?_ ?_
      rotate_left
      · go_simp
        all_goals with_reducible rfl
      simp only [Act.put, List.setIfInBounds_toArray, List.set_cons_zero, List.set_cons_succ]
      obtain ⟨l2, y0, y1, y2, y3, y4⟩ := PolBl.cells (Blk.below HP9.out HSa.out (Blk.lt HP9.out))
      rw [HAh.out] at y2
      refine wpL_val (v := ?_) (w' := Wa) rfl ?_ ?_
      rotate_left
      · go_simp
        all_goals with_reducible rfl
      simp only [Act.put, List.setIfInBounds_toArray, List.set_cons_zero, List.set_cons_succ]
      have HXa := Lib.hid (HX9.out.trans (HSa.out.mono HX9.out.size))
      have hrh := ((HRD.out.below HXa.out).more HXa.out.size).2.2.1
      rw [HAh.out, HNH.out] at hrh
      obtain ⟨gw, cw, xw, hrun, how, hgw⟩ := app_keep Wa Try.underlying25 Try.whoI rfl (by decide) (by decide) HOa.out (by simp) ⟨gA, oA, none⟩ nh s.ch (P.who.flatMap whoV) (by rw [flat_len whoV 3 len_who, HNH.out]) (rd_add hrh (by omega)) (who_ones _) (by omega) HSa.out.size 25
      rw [Nat.zero_add] at hrun how
      rw [List.nil_append] at how
      have HSw := Lib.hid (HSa.out.grown hgw HSa.out.size (own_base HOa.out))
      clear hrh hgw
      obtain ⟨ow, hOW⟩ : ∃ o : Nat, 0 = o := ⟨_, rfl⟩
      have hse : Value.slice (some ⟨gw, 0, none⟩) nh cw = Value.slice (some ⟨gw, ow, none⟩) nh cw := by rw [← hOW]
      rw [hse] at hrun
      refine wpL_val (v := .slice (some ⟨gw, ow, none⟩) nh cw) (w' := xw) rfl ?_ ?_
      · refine (append_runZ (s := .tmp 85) (x := .tmp 87) (v := .slice (some ⟨g0, 0, none⟩) 0 0) (xv := .slice (some ⟨gA, oA, none⟩) nh s.ch) rfl (by rfl) (by rfl) hrun).trans ?_
        with_reducible rfl
      simp only [Act.put, List.setIfInBounds_toArray, List.set_cons_zero, List.set_cons_succ]
      clear hrun hse l2 y0 y1 y2 y3 y4
      have HOw := Lib.hid (show xw.ownsRow W9.heap.size 41 3 (.slice (some ⟨gw, ow, none⟩) nh cw) nh (P.who.flatMap whoV) from by rw [← hOW]; exact how)
      have HOW := Lib.hid hOW
      have HQw := Lib.hid (HQ9.out.below HSw.out HQ9.out.lt)
      have hqf := HQw.out.frozen 2
      have hql := HQw.out.lt
      have hqc : xw.cell? ⟨gx + 1, 2, none⟩ = some (.slice s.Ah nh s.ch) := (HQw.out.cell 2).trans rfl
      clear how hOW
      obtain ⟨Wb, hWb⟩ : ∃ V, xw.setCell ⟨gx + 1, 2, none⟩ (.slice (some ⟨gw, ow, none⟩) nh cw) = V := ⟨_, rfl⟩
      have HOb := Lib.hid (show Wb.ownsRow W9.heap.size 41 3 (.slice (some ⟨gw, ow, none⟩) nh cw) nh (P.who.flatMap whoV) from by rw [← hWb]; exact polSet (k := 2) HOw.out HQw.out (by decide))
      have HQb := Lib.hid (show Blk Wb (gx + 1) 28 #[.slice s.Ae ne s.ce, .slice s.Ag ng s.cg, .slice (some ⟨gw, ow, none⟩) nh cw, .slice s.Au nu s.cu, .slice s.Ar nr s.cr] from by rw [← hWb]; have h := HQw.out.set_ 2 (.slice (some ⟨gw, ow, none⟩) nh cw); simpa using h)
      have HBb := Lib.hid (show Below (gx + 1) W9 Wb from by rw [← hWb]; exact (HSw.out.mono (Nat.le_of_lt HQ9.out.lt)).setCell (p := ⟨gx + 1, 2, none⟩) (Nat.le_refl _) _)
      have hgw9 : gx + 1 < gw := by have h := (own_who HOW.out HOb.out HX.out).2.1; have := HQ9.out.lt; omega
      have HWb := Lib.hid hWb
      clear hWb
      go_upto_region 16 with fail
      rw [HWb.out]
      clear HWb hqf hql hqc HQw HOw HSw HSa HWa HG0 HOa HXa
      have HLb := Lib.hid (HL9.out.below HBb.out (by omega))
      obtain ⟨y, hy⟩ : ∃ y, moreW x (k3 : Nat) (k4 : Int) = y := ⟨_, rfl⟩
      have hys : y.set = x.set ||| k3 := by rw [← hy]; rfl
      have hyl : y.lv = max x.lv (k4 : Int) := by rw [← hy]; rfl
      have hyr : y.ro = x.ro := by rw [← hy]; rfl
      have hxw := (HWD.out.2.1 _ (List.mem_of_getElem? HX.out)).1
      have HJ := Lib.hid (fun V : World => by have h := join_c x.set k3 (x.set : Int) (k3 : Int) x.lv (k4 : Int) V rfl rfl hxw (by omega); rw [← hys, ← hyl] at h; exact h)
      have HY := Lib.hid hy
      have HYR := Lib.hid hyr
      clear hy hys hyl hyr
      have HOC := Lib.hid (fun (V : World) (h : Below Wb.heap.size Wb V) => own_who HOW.out (own_below HOb.out h) HX.out)
      have HQC := Lib.hid (fun (V : World) (h : Below Wb.heap.size Wb V) => pol5 (HQb.out.below h HQb.out.lt))
      refine wp_region_ordz (S := fun V => Below Wb.heap.size Wb V) (z := 13) (by kernel_rfl) ?_
      refine ordz_take (v := ?_) (i := 0) (fuel := 13) (by simp; rfl) (by kernel_rfl) (by kernel_rfl) (by kernel_rfl) (by kernel_rfl) (Or.inl ⟨by rfl, fun w' hSw => ?_⟩) (Below.refl Wb.heap.size Wb).drew ?_
      rotate_left
      · obtain ⟨l2, y0, y1, y2, y3, y4⟩ := HQC.out w' hSw
        go_simp
        all_goals with_reducible rfl
      simp only [Act.put, List.setIfInBounds_toArray, List.set_cons_zero, List.set_cons_succ]
      refine ordz_take (v := ?_) (i := 1) (fuel := 12) (by simp; rfl) (by kernel_rfl) (by kernel_rfl) (by kernel_rfl) (by kernel_rfl) (Or.inl ⟨by rfl, fun w' hSw => ?_⟩) (Below.refl Wb.heap.size Wb).drew ?_
      rotate_left
      · obtain ⟨l2, y0, y1, y2, y3, y4⟩ := HQC.out w' hSw
        go_simp
        all_goals with_reducible rfl
      simp only [Act.put, List.setIfInBounds_toArray, List.set_cons_zero, List.set_cons_succ]
      refine ordz_take (v := ?_) (i := 2) (fuel := 11) (by simp; rfl) (by kernel_rfl) (by kernel_rfl) (by kernel_rfl) (by kernel_rfl) (Or.inl ⟨by rfl, fun w' hSw => ?_⟩) (Below.refl Wb.heap.size Wb).drew ?_
      rotate_left
      · go_simp
        all_goals with_reducible rfl
      simp only [Act.put, List.setIfInBounds_toArray, List.set_cons_zero, List.set_cons_succ]
      refine ordz_take (v := ?_) (i := 3) (fuel := 10) (by simp; rfl) (by kernel_rfl) (by kernel_rfl) (by kernel_rfl) (by kernel_rfl) (Or.inl ⟨by rfl, fun w' hSw => ?_⟩) (Below.refl Wb.heap.size Wb).drew ?_
      rotate_left
      · obtain ⟨l2, y0, y1, y2, y3, y4⟩ := HQC.out w' hSw
        go_simp
        all_goals with_reducible rfl
      simp only [Act.put, List.setIfInBounds_toArray, List.set_cons_zero, List.set_cons_succ]
      refine ordz_take (v := ?_) (i := 4) (fuel := 9) (by simp; rfl) (by kernel_rfl) (by kernel_rfl) (by kernel_rfl) (by kernel_rfl) (Or.inl ⟨by rfl, fun w' hSw => ?_⟩) (Below.refl Wb.heap.size Wb).drew ?_
      rotate_left
      · obtain ⟨l2, y0, y1, y2, y3, y4⟩ := HQC.out w' hSw
        go_simp
        all_goals with_reducible rfl
      simp only [Act.put, List.setIfInBounds_toArray, List.set_cons_zero, List.set_cons_succ]
      refine ordz_take (v := ?_) (i := 5) (fuel := 8) (by simp; rfl) (by kernel_rfl) (by kernel_rfl) (by kernel_rfl) (by kernel_rfl) (Or.inl ⟨by rfl, fun w' hSw => ?_⟩) (Below.refl Wb.heap.size Wb).drew ?_
      rotate_left
      · go_simp
        all_goals with_reducible rfl
      simp only [Act.put, List.setIfInBounds_toArray, List.set_cons_zero, List.set_cons_succ]
      refine ordz_take (v := ?_) (i := 6) (fuel := 7) (by simp; rfl) (by kernel_rfl) (by kernel_rfl) (by kernel_rfl) (by kernel_rfl) (Or.inl ⟨by rfl, fun w' hSw => ?_⟩) (Below.refl Wb.heap.size Wb).drew ?_
      rotate_left
      · go_simp
        all_goals with_reducible rfl
      simp only [Act.put, List.setIfInBounds_toArray, List.set_cons_zero, List.set_cons_succ]
      refine ordz_take (v := ?_) (i := 7) (fuel := 6) (by simp; rfl) (by kernel_rfl) (by kernel_rfl) (by kernel_rfl) (by kernel_rfl) (Or.inl ⟨by rfl, fun w' hSw => ?_⟩) (Below.refl Wb.heap.size Wb).drew ?_
      rotate_left
      · go_simp
        all_goals with_reducible rfl
      simp only [Act.put, List.setIfInBounds_toArray, List.set_cons_zero, List.set_cons_succ]
      refine ordz_take (v := ?_) (i := 8) (fuel := 5) (by simp; rfl) (by kernel_rfl) (by kernel_rfl) (by kernel_rfl) (by kernel_rfl) (Or.inl ⟨by rfl, fun w' hSw => ?_⟩) (Below.refl Wb.heap.size Wb).drew ?_
      rotate_left
      · obtain ⟨zl, _, z0, z1, _⟩ := HOC.out w' hSw
        go_simp
        all_goals with_reducible rfl
      simp only [Act.put, List.setIfInBounds_toArray, List.set_cons_zero, List.set_cons_succ]
      refine ordz_take (v := ?_) (i := 9) (fuel := 4) (by simp; rfl) (by kernel_rfl) (by kernel_rfl) (by kernel_rfl) (by kernel_rfl) (Or.inl ⟨by rfl, fun w' hSw => ?_⟩) (Below.refl Wb.heap.size Wb).drew ?_
      rotate_left
      · have z0 : w'.cell? ⟨gx, 0, none⟩ = some (.int .u64 (k3 : Int)) := ((HLb.out.below hSw HLb.out.lt).cell 0).trans rfl
        have z1 : w'.cell? ⟨gx, 1, none⟩ = some (.int .i64 (k4 : Int)) := ((HLb.out.below hSw HLb.out.lt).cell 1).trans rfl
        have zl := (HLb.out.below hSw HLb.out.lt).lt
        go_simp
        all_goals with_reducible rfl
      simp only [Act.put, List.setIfInBounds_toArray, List.set_cons_zero, List.set_cons_succ]
      refine ordz_call (f := 10) (args := #[.agg #[.int .u64 (x.set : Int), .int .i64 x.lv], .agg #[.int .u64 (k3 : Int), .int .i64 (k4 : Int)]]) (w1 := Wb.drew) (i := 10) (fuel := 3) (by simp; rfl) (by kernel_rfl) (by rfl) ?_ ?_
      · go_simp
        all_goals with_reducible rfl
      (with_reducible refine (HJ.out _).mono ?_)
      rintro e6 w6 ⟨rfl, hb⟩
      have HS6 := Lib.hid (show Below Wb.heap.size Wb w6 from (Below.refl Wb.heap.size Wb).drew.trans (hb.mono (Nat.le_refl _)))
      clear hb
      refine ⟨_, rfl, .inr HS6.out, ?_⟩
      simp only [Act.put, List.setIfInBounds_toArray, List.set_cons_zero, List.set_cons_succ]
      refine ordz_only (v := ?_) (w' := w6) (i := 11) (fuel := 2) (by simp; rfl) (by kernel_rfl) (by rfl) ?_ (.inr HS6.out) ?_
      rotate_left
      · go_simp
        all_goals with_reducible rfl
      simp only [Act.put, List.setIfInBounds_toArray, List.set_cons_zero, List.set_cons_succ]
      refine ordz_only (v := ?_) (w' := w6) (i := 12) (fuel := 1) (by simp; rfl) (by kernel_rfl) (by rfl) ?_ (.inr HS6.out) ?_
      rotate_left
      · go_simp
        all_goals with_reducible rfl
      simp only [Act.put, List.setIfInBounds_toArray, List.set_cons_zero, List.set_cons_succ]
      obtain ⟨zl, _, z0, z1, zf⟩ := HOC.out w6 HS6.out
      have zf0 := zf (ow + k1 * 3)
      have zf1 := zf (ow + k1 * 3 + 1)
      refine ordz_skip (w' := (w6.setCell ⟨gw, ow + k1 * 3, none⟩ (.int .u64 (y.set : Int))).setCell ⟨gw, ow + k1 * 3 + 1, none⟩ (.int .i64 y.lv)) (i := 13) (fuel := 0) (by simp; rfl) (by kernel_rfl) (by rfl) (by rfl) ?_ (.inl rfl) ?_
      · go_simp
        all_goals with_reducible rfl
      refine ordz_done (by kernel_rfl) ?_ _
      obtain ⟨W7, hW7⟩ : ∃ V, (w6.setCell ⟨gw, ow + k1 * 3, none⟩ (.int .u64 (y.set : Int))).setCell ⟨gw, ow + k1 * 3 + 1, none⟩ (.int .i64 y.lv) = V := ⟨_, rfl⟩
      have HRW7 := Lib.hid (show RdR W7 W7.heap.size (some ⟨gw, ow, none⟩) nh ((P.who.set k1 y).flatMap whoV) from by have h := rd_who_set HOW.out (own_below HOb.out HS6.out) HX.out y HYR.out; rw [hW7] at h; exact h.more (by rw [← hW7]; simp))
      have HB7 := Lib.hid (show Below (gx + 1) W9 W7 from by rw [← hW7]; exact ((HBb.out.trans (HS6.out.mono (Nat.le_of_lt HQb.out.lt))).setCell (p := ⟨gw, ow + k1 * 3, none⟩) (by show gx + 1 ≤ gw; omega) _).setCell (p := ⟨gw, ow + k1 * 3 + 1, none⟩) (by show gx + 1 ≤ gw; omega) _)
      have HQ7 := Lib.hid (show Blk W7 (gx + 1) 28 #[.slice s.Ae ne s.ce, .slice s.Ag ng s.cg, .slice (some ⟨gw, ow, none⟩) nh cw, .slice s.Au nu s.cu, .slice s.Ar nr s.cr] from by rw [← hW7]; exact ((HQb.out.below HS6.out HQb.out.lt).far (p := ⟨gw, ow + k1 * 3, none⟩) (by show gx + 1 ≠ gw; omega) _).far (p := ⟨gw, ow + k1 * 3 + 1, none⟩) (by show gx + 1 ≠ gw; omega) _)
      rw [hW7]
      clear hW7 zl z0 z1 zf zf0 zf1
      have HX7 := Lib.hid (HX9.out.trans (HB7.out.mono (by have := HGP.out; omega)))
      have HP7 := Lib.hid (show PolBl W7 gp s ne ng nh nu nr from Blk.below HP9.out HB7.out (by omega))
      have HG7 := Lib.hid (HG9.out.below HB7.out (by omega))
      have HC7 := Lib.hid (HC9.out.below HB7.out (by omega))
      have HL7 := Lib.hid (HL9.out.below HB7.out (by omega))
      obtain ⟨mm, hmm⟩ : ∃ m, k3 &&& x.set = m := ⟨_, rfl⟩
      obtain ⟨mv, hmv⟩ : ∃ m, min (k4 : Int) x.lv = m := ⟨_, rfl⟩
      have hmm8 : mm < 18446744073709551616 := by rw [← hmm]; exact Nat.lt_of_le_of_lt Nat.and_le_left (by omega)
      have HME := Lib.hid (fun V : World => by have h := meet_c k3 x.set (k3 : Int) (x.set : Int) (k4 : Int) x.lv V rfl rfl (by omega) hxw; rw [hmm, hmv] at h; exact h)
      have HSX2 := Lib.hid (fun (V : World) (hb : Below w1.heap.size w1 V) => HSE.out V hb mm mv hmm8 true (by rw [sees_at HX.out, ← hmm, ← hmv]; exact below_meet _ _ _ _))
      have HRQ := Lib.hid (show RightPol (withH P (P.who.set k1 y)) from by rw [← HY.out]; exact right_withH HRT.out HX.out (by omega) (by omega) (by omega))
      have HWQ := Lib.hid (show PolWd (withH P (P.who.set k1 y)) from by rw [← HY.out]; exact wd_withH HWD.out HX.out (by omega))
      have hnq : (withH P (P.who.set k1 y)).who.length = nh := by show (P.who.set k1 y).length = nh; rw [List.length_set]; exact HNH.out
      have HPQ := Lib.hid (fun (V : World) (hb : Below W7.heap.size W7 V) => show PolRd V V.heap.size { s with Ah := some ⟨gw, ow, none⟩, ch := cw } (withH P (P.who.set k1 y)) from rd_withH ((HRD.out.below (HX7.out.trans (hb.mono HX7.out.size))).more (Nat.le_trans HX7.out.size hb.size)) cw (by have h := (HRW7.out.below hb).more hb.size; rw [← hnq] at h; exact h))
      have HSQ := Lib.hid (fun (V : World) (hb : Below W7.heap.size W7 V) (a : Nat) (u : Int) (ha : a < 18446744073709551616) (q : Bool) (hq : seesB true (withH P (P.who.set k1 y)) (k1 : Int) a u = q) => show Calls Try.prog 8 #[.agg #[.slice s.Ae ne s.ce, .slice s.Ag ng s.cg, .slice (some ⟨gw, ow, none⟩) nh cw, .slice s.Au nu s.cu, .slice s.Ar nr s.cr], .int .i64 (k1 : Int), .agg #[.int .u64 (a : Int), .int .i64 u]] V (RetB V q) from ruSees_c { s with Ah := some ⟨gw, ow, none⟩, ch := cw } (withH P (P.who.set k1 y)) V ne ng nh nu nr (HPQ.out V hb) HWQ.out HNE.out HNG.out hnq HNU.out HNR.out true (by simp [HRQ.out]) (k1 : Int) a u ha q hq)
      have HS1 := Lib.hid (fun (V : World) (hb : Below W7.heap.size W7 V) (h : σ = true) => HSQ.out V hb gn gv (by omega) true (by rw [sees_at (with_at HX.out y), ← HY.out]; exact below_trans ((sees_at HX.out gn gv).symm.trans (HSX.out.trans h)) (below_more x k3 (k4 : Int))))
      have HS2 := Lib.hid (fun (V : World) (hb : Below W7.heap.size W7 V) => HSQ.out V hb k3 (k4 : Int) (by omega) true (by rw [sees_at (with_at HX.out y), ← HY.out]; exact below_add x k3 (k4 : Int)))
      clear hmm hmv hnq
      obtain ⟨gB, oB, hB, hgB, cB0, cB1, _⟩ := rd_who HRD.out.2.2.1 (by rw [HNH.out]; omega) HX.out
      have HAB := Lib.hid hB
      have HC0 := Lib.hid cB0
      have HC1 := Lib.hid cB1
      clear hB cB0 cB1
      have hgV : gB < W7.heap.size := by have := HX7.out.size; omega
      go_upto_region 17 with fail
      cases σ
      · skip
        refine wp_region_det (S := fun V => Below W7.heap.size W7 V) (by kernel_rfl) (Below.refl W7.heap.size W7).drew ?_
        refine det_take (v := ?_) (i := 0) (fuel := 38) (by simp; rfl) (by kernel_rfl) (by kernel_rfl) (by kernel_rfl) (Or.inl ⟨by rfl, fun w' hS => Or.inr ⟨11, #[], w', ?_, ?_⟩⟩) ?_
        rotate_left
        · go_simp
          all_goals with_reducible rfl
        · exact (HKN.out w').mono fun e w2 h => ⟨by rw [h.1], hS.trans (h.2.mono hS.size)⟩
        simp only [Act.put, List.setIfInBounds_toArray, List.set_cons_zero, List.set_cons_succ]
        refine det_take (v := ?_) (i := 1) (fuel := 37) (by simp; rfl) (by kernel_rfl) (by kernel_rfl) (by kernel_rfl) (Or.inl ⟨by rfl, fun w' hS => Or.inl ⟨w', ?_, hS⟩⟩) ?_
        rotate_left
        · go_simp
          all_goals with_reducible rfl
        simp only [Act.put, List.setIfInBounds_toArray, List.set_cons_zero, List.set_cons_succ]
        refine det_take (v := ?_) (i := 2) (fuel := 36) (by simp; rfl) (by kernel_rfl) (by kernel_rfl) (by kernel_rfl) (Or.inl ⟨by rfl, fun w' hS => Or.inl ⟨w', ?_, hS⟩⟩) ?_
        rotate_left
        · have z0 : w'.cell? ⟨gg + 1, 0, none⟩ = some (.int .u64 (gn : Int)) := ((HC7.out.below hS HC7.out.lt).cell 0).trans rfl
          have z1 : w'.cell? ⟨gg + 1, 1, none⟩ = some (.int .i64 gv) := ((HC7.out.below hS HC7.out.lt).cell 1).trans rfl
          have zl := (HC7.out.below hS HC7.out.lt).lt
          go_simp
          all_goals with_reducible rfl
        simp only [Act.put, List.setIfInBounds_toArray, List.set_cons_zero, List.set_cons_succ]
        refine det_take (v := ?_) (i := 3) (fuel := 35) (by simp; rfl) (by kernel_rfl) (by kernel_rfl) (by kernel_rfl) (Or.inl ⟨by rfl, fun w' hS => Or.inl ⟨w', ?_, hS⟩⟩) ?_
        rotate_left
        · have z0 : w'.cell? ⟨gg, 0, none⟩ = some (.int .u64 (gn : Int)) := ((HG7.out.below hS HG7.out.lt).cell 0).trans rfl
          have z1 : w'.cell? ⟨gg, 1, none⟩ = some (.int .i64 gv) := ((HG7.out.below hS HG7.out.lt).cell 1).trans rfl
          have zl := (HG7.out.below hS HG7.out.lt).lt
          go_simp
          all_goals with_reducible rfl
        simp only [Act.put, List.setIfInBounds_toArray, List.set_cons_zero, List.set_cons_succ]
        refine det_take (v := ?_) (i := 4) (fuel := 34) (by simp; rfl) (by kernel_rfl) (by kernel_rfl) (by kernel_rfl) (Or.inl ⟨by rfl, fun w' hS => Or.inl ⟨w', ?_, hS⟩⟩) ?_
        rotate_left
        · go_simp
          all_goals with_reducible rfl
        simp only [Act.put, List.setIfInBounds_toArray, List.set_cons_zero, List.set_cons_succ]
        refine det_take (v := ?_) (i := 5) (fuel := 33) (by simp; rfl) (by kernel_rfl) (by kernel_rfl) (by kernel_rfl) (Or.inl ⟨by rfl, fun w' hS => Or.inl ⟨w', ?_, hS⟩⟩) ?_
        rotate_left
        · go_simp
          all_goals with_reducible rfl
        simp only [Act.put, List.setIfInBounds_toArray, List.set_cons_zero, List.set_cons_succ]
        refine det_take (v := ?_) (i := 6) (fuel := 32) (by simp; rfl) (by kernel_rfl) (by kernel_rfl) (by kernel_rfl) (Or.inl ⟨by rfl, fun w' hS => Or.inl ⟨w', ?_, hS⟩⟩) ?_
        rotate_left
        · go_simp
          all_goals with_reducible rfl
        simp only [Act.put, List.setIfInBounds_toArray, List.set_cons_zero, List.set_cons_succ]
        refine det_take (v := ?_) (i := 7) (fuel := 31) (by simp; rfl) (by kernel_rfl) (by kernel_rfl) (by kernel_rfl) (Or.inl ⟨by rfl, fun w' hS => Or.inl ⟨w', ?_, hS⟩⟩) ?_
        rotate_left
        · obtain ⟨l2, y0, y1, y2, y3, y4⟩ := PolBl.cells (Blk.below HP7.out hS (Blk.lt HP7.out))
          go_simp
          all_goals with_reducible rfl
        simp only [Act.put, List.setIfInBounds_toArray, List.set_cons_zero, List.set_cons_succ]
        refine det_take (v := ?_) (i := 8) (fuel := 30) (by simp; rfl) (by kernel_rfl) (by kernel_rfl) (by kernel_rfl) (Or.inl ⟨by rfl, fun w' hS => Or.inl ⟨w', ?_, hS⟩⟩) ?_
        rotate_left
        · go_simp
          all_goals with_reducible rfl
        simp only [Act.put, List.setIfInBounds_toArray, List.set_cons_zero, List.set_cons_succ]
        refine det_take (v := ?_) (i := 9) (fuel := 29) (by simp; rfl) (by kernel_rfl) (by kernel_rfl) (by kernel_rfl) (Or.inl ⟨by rfl, fun w' hS => Or.inl ⟨w', ?_, hS⟩⟩) ?_
        rotate_left
        · have z0 : w'.cell? ⟨gg, 0, none⟩ = some (.int .u64 (gn : Int)) := ((HG7.out.below hS HG7.out.lt).cell 0).trans rfl
          have z1 : w'.cell? ⟨gg, 1, none⟩ = some (.int .i64 gv) := ((HG7.out.below hS HG7.out.lt).cell 1).trans rfl
          have zl := (HG7.out.below hS HG7.out.lt).lt
          go_simp
          all_goals with_reducible rfl
        simp only [Act.put, List.setIfInBounds_toArray, List.set_cons_zero, List.set_cons_succ]
        refine det_take (v := ?_) (i := 10) (fuel := 28) (by simp; rfl) (by kernel_rfl) (by kernel_rfl) (by kernel_rfl) (Or.inl ⟨by rfl, fun w' hS => Or.inr ⟨8, #[.agg #[.slice s.Ae ne s.ce, .slice s.Ag ng s.cg, .slice s.Ah nh s.ch, .slice s.Au nu s.cu, .slice s.Ar nr s.cr], .int .i64 (k1 : Int), .agg #[.int .u64 (gn : Int), .int .i64 gv]], w', ?_, ?_⟩⟩) ?_
        rotate_left
        · go_simp
          all_goals with_reducible rfl
        · exact (HSG.out w' (HX7.out.trans (hS.mono HX7.out.size))).mono fun e w2 h => ⟨by rw [h.1], hS.trans (h.2.mono hS.size)⟩
        simp only [Act.put, List.setIfInBounds_toArray, List.set_cons_zero, List.set_cons_succ]
        refine det_take (v := ?_) (i := 11) (fuel := 27) (by simp; rfl) (by kernel_rfl) (by kernel_rfl) (by kernel_rfl) (Or.inl ⟨by rfl, fun w' hS => Or.inl ⟨w', ?_, hS⟩⟩) ?_
        rotate_left
        · go_simp
          all_goals with_reducible rfl
        simp only [Act.put, List.setIfInBounds_toArray, List.set_cons_zero, List.set_cons_succ]
        refine det_take (v := ?_) (i := 12) (fuel := 26) (by simp; rfl) (by kernel_rfl) (by kernel_rfl) (by kernel_rfl) (Or.inl ⟨by rfl, fun w' hS => Or.inl ⟨w', ?_, hS⟩⟩) ?_
        rotate_left
        · go_simp
          all_goals with_reducible rfl
        simp only [Act.put, List.setIfInBounds_toArray, List.set_cons_zero, List.set_cons_succ]
        refine det_take (v := undef) (i := 13) (fuel := 25) (by simp; rfl) (by kernel_rfl) (by kernel_rfl) (by kernel_rfl) (Or.inr ⟨by rfl, by rfl⟩) ?_
        simp only [Act.put, List.setIfInBounds_toArray, List.set_cons_zero, List.set_cons_succ]
        refine det_take (v := undef) (i := 14) (fuel := 24) (by simp; rfl) (by kernel_rfl) (by kernel_rfl) (by kernel_rfl) (Or.inr ⟨by rfl, by rfl⟩) ?_
        simp only [Act.put, List.setIfInBounds_toArray, List.set_cons_zero, List.set_cons_succ]
        refine det_take (v := undef) (i := 15) (fuel := 23) (by simp; rfl) (by kernel_rfl) (by kernel_rfl) (by kernel_rfl) (Or.inr ⟨by rfl, by rfl⟩) ?_
        simp only [Act.put, List.setIfInBounds_toArray, List.set_cons_zero, List.set_cons_succ]
        refine det_take (v := undef) (i := 16) (fuel := 22) (by simp; rfl) (by kernel_rfl) (by kernel_rfl) (by kernel_rfl) (Or.inr ⟨by rfl, by rfl⟩) ?_
        simp only [Act.put, List.setIfInBounds_toArray, List.set_cons_zero, List.set_cons_succ]
        refine det_take (v := ?_) (i := 17) (fuel := 21) (by simp; rfl) (by kernel_rfl) (by kernel_rfl) (by kernel_rfl) (Or.inl ⟨by rfl, fun w' hS => Or.inl ⟨w', ?_, hS⟩⟩) ?_
        rotate_left
        · go_simp
          all_goals with_reducible rfl
        simp only [Act.put, List.setIfInBounds_toArray, List.set_cons_zero, List.set_cons_succ]
        refine det_take (v := ?_) (i := 18) (fuel := 20) (by simp; rfl) (by kernel_rfl) (by kernel_rfl) (by kernel_rfl) (Or.inl ⟨by rfl, fun w' hS => Or.inl ⟨w', ?_, hS⟩⟩) ?_
        rotate_left
        · go_simp
          all_goals with_reducible rfl
        simp only [Act.put, List.setIfInBounds_toArray, List.set_cons_zero, List.set_cons_succ]
        refine det_take (v := ?_) (i := 19) (fuel := 19) (by simp; rfl) (by kernel_rfl) (by kernel_rfl) (by kernel_rfl) (Or.inl ⟨by rfl, fun w' hS => Or.inl ⟨w', ?_, hS⟩⟩) ?_
        rotate_left
        · go_simp
          all_goals with_reducible rfl
        simp only [Act.put, List.setIfInBounds_toArray, List.set_cons_zero, List.set_cons_succ]
        refine det_take (v := ?_) (i := 20) (fuel := 18) (by simp; rfl) (by kernel_rfl) (by kernel_rfl) (by kernel_rfl) (Or.inl ⟨by rfl, fun w' hS => Or.inl ⟨w', ?_, hS⟩⟩) ?_
        rotate_left
        · obtain ⟨l2, y0, y1, y2, y3, y4⟩ := pol5 (HQ7.out.below hS HQ7.out.lt)
          go_simp
          all_goals with_reducible rfl
        simp only [Act.put, List.setIfInBounds_toArray, List.set_cons_zero, List.set_cons_succ]
        refine det_take (v := ?_) (i := 21) (fuel := 17) (by simp; rfl) (by kernel_rfl) (by kernel_rfl) (by kernel_rfl) (Or.inl ⟨by rfl, fun w' hS => Or.inl ⟨w', ?_, hS⟩⟩) ?_
        rotate_left
        · go_simp
          all_goals with_reducible rfl
        simp only [Act.put, List.setIfInBounds_toArray, List.set_cons_zero, List.set_cons_succ]
        refine det_take (v := ?_) (i := 22) (fuel := 16) (by simp; rfl) (by kernel_rfl) (by kernel_rfl) (by kernel_rfl) (Or.inl ⟨by rfl, fun w' hS => Or.inl ⟨w', ?_, hS⟩⟩) ?_
        rotate_left
        · have z0 : w'.cell? ⟨gx, 0, none⟩ = some (.int .u64 (k3 : Int)) := ((HL7.out.below hS HL7.out.lt).cell 0).trans rfl
          have z1 : w'.cell? ⟨gx, 1, none⟩ = some (.int .i64 (k4 : Int)) := ((HL7.out.below hS HL7.out.lt).cell 1).trans rfl
          have zl := (HL7.out.below hS HL7.out.lt).lt
          go_simp
          all_goals with_reducible rfl
        simp only [Act.put, List.setIfInBounds_toArray, List.set_cons_zero, List.set_cons_succ]
        refine det_take (v := ?_) (i := 23) (fuel := 15) (by simp; rfl) (by kernel_rfl) (by kernel_rfl) (by kernel_rfl) (Or.inl ⟨by rfl, fun w' hS => Or.inr ⟨8, #[.agg #[.slice s.Ae ne s.ce, .slice s.Ag ng s.cg, .slice (some ⟨gw, ow, none⟩) nh cw, .slice s.Au nu s.cu, .slice s.Ar nr s.cr], .int .i64 (k1 : Int), .agg #[.int .u64 (k3 : Int), .int .i64 (k4 : Int)]], w', ?_, ?_⟩⟩) ?_
        rotate_left
        · go_simp
          all_goals with_reducible rfl
        · exact (HS2.out w' hS).mono fun e w2 h => ⟨by rw [h.1], hS.trans (h.2.mono hS.size)⟩
        simp only [Act.put, List.setIfInBounds_toArray, List.set_cons_zero, List.set_cons_succ]
        refine det_take (v := ?_) (i := 24) (fuel := 14) (by simp; rfl) (by kernel_rfl) (by kernel_rfl) (by kernel_rfl) (Or.inl ⟨by rfl, fun w' hS => Or.inl ⟨w', ?_, hS⟩⟩) ?_
        rotate_left
        · go_simp
          all_goals with_reducible rfl
        simp only [Act.put, List.setIfInBounds_toArray, List.set_cons_zero, List.set_cons_succ]
        refine det_take (v := ?_) (i := 25) (fuel := 13) (by simp; rfl) (by kernel_rfl) (by kernel_rfl) (by kernel_rfl) (Or.inl ⟨by rfl, fun w' hS => Or.inl ⟨w', ?_, hS⟩⟩) ?_
        rotate_left
        · go_simp
          all_goals with_reducible rfl
        simp only [Act.put, List.setIfInBounds_toArray, List.set_cons_zero, List.set_cons_succ]
        refine det_take (v := ?_) (i := 26) (fuel := 12) (by simp; rfl) (by kernel_rfl) (by kernel_rfl) (by kernel_rfl) (Or.inl ⟨by rfl, fun w' hS => Or.inl ⟨w', ?_, hS⟩⟩) ?_
        rotate_left
        · obtain ⟨l2, y0, y1, y2, y3, y4⟩ := PolBl.cells (Blk.below HP7.out hS (Blk.lt HP7.out))
          go_simp
          all_goals with_reducible rfl
        simp only [Act.put, List.setIfInBounds_toArray, List.set_cons_zero, List.set_cons_succ]
        refine det_take (v := ?_) (i := 27) (fuel := 11) (by simp; rfl) (by kernel_rfl) (by kernel_rfl) (by kernel_rfl) (Or.inl ⟨by rfl, fun w' hS => Or.inl ⟨w', ?_, hS⟩⟩) ?_
        rotate_left
        · go_simp
          all_goals with_reducible rfl
        simp only [Act.put, List.setIfInBounds_toArray, List.set_cons_zero, List.set_cons_succ]
        refine det_take (v := ?_) (i := 28) (fuel := 10) (by simp; rfl) (by kernel_rfl) (by kernel_rfl) (by kernel_rfl) (Or.inl ⟨by rfl, fun w' hS => Or.inl ⟨w', ?_, hS⟩⟩) ?_
        rotate_left
        · have z0 : w'.cell? ⟨gx, 0, none⟩ = some (.int .u64 (k3 : Int)) := ((HL7.out.below hS HL7.out.lt).cell 0).trans rfl
          have z1 : w'.cell? ⟨gx, 1, none⟩ = some (.int .i64 (k4 : Int)) := ((HL7.out.below hS HL7.out.lt).cell 1).trans rfl
          have zl := (HL7.out.below hS HL7.out.lt).lt
          go_simp
          all_goals with_reducible rfl
        simp only [Act.put, List.setIfInBounds_toArray, List.set_cons_zero, List.set_cons_succ]
        refine det_take (v := ?_) (i := 29) (fuel := 9) (by simp; rfl) (by kernel_rfl) (by kernel_rfl) (by kernel_rfl) (Or.inl ⟨by rfl, fun w' hS => Or.inl ⟨w', ?_, hS⟩⟩) ?_
        rotate_left
        · obtain ⟨l2, y0, y1, y2, y3, y4⟩ := PolBl.cells (Blk.below HP7.out hS (Blk.lt HP7.out))
          go_simp
          all_goals with_reducible rfl
        simp only [Act.put, List.setIfInBounds_toArray, List.set_cons_zero, List.set_cons_succ]
        refine det_take (v := ?_) (i := 30) (fuel := 8) (by simp; rfl) (by kernel_rfl) (by kernel_rfl) (by kernel_rfl) (Or.inl ⟨by rfl, fun w' hS => Or.inl ⟨w', ?_, hS⟩⟩) ?_
        rotate_left
        · obtain ⟨l2, y0, y1, y2, y3, y4⟩ := PolBl.cells (Blk.below HP7.out hS (Blk.lt HP7.out))
          rw [HAB.out] at y2
          go_simp
          all_goals with_reducible rfl
        simp only [Act.put, List.setIfInBounds_toArray, List.set_cons_zero, List.set_cons_succ]
        refine det_take (v := ?_) (i := 31) (fuel := 7) (by simp; rfl) (by kernel_rfl) (by kernel_rfl) (by kernel_rfl) (Or.inl ⟨by rfl, fun w' hS => Or.inl ⟨w', ?_, hS⟩⟩) ?_
        rotate_left
        · go_simp
          all_goals with_reducible rfl
        simp only [Act.put, List.setIfInBounds_toArray, List.set_cons_zero, List.set_cons_succ]
        refine det_take (v := ?_) (i := 32) (fuel := 6) (by simp; rfl) (by kernel_rfl) (by kernel_rfl) (by kernel_rfl) (Or.inl ⟨by rfl, fun w' hS => Or.inl ⟨w', ?_, hS⟩⟩) ?_
        rotate_left
        · go_simp
          all_goals with_reducible rfl
        simp only [Act.put, List.setIfInBounds_toArray, List.set_cons_zero, List.set_cons_succ]
        refine det_take (v := ?_) (i := 33) (fuel := 5) (by simp; rfl) (by kernel_rfl) (by kernel_rfl) (by kernel_rfl) (Or.inl ⟨by rfl, fun w' hS => Or.inl ⟨w', ?_, hS⟩⟩) ?_
        rotate_left
        · go_simp
          all_goals with_reducible rfl
        simp only [Act.put, List.setIfInBounds_toArray, List.set_cons_zero, List.set_cons_succ]
        refine det_take (v := ?_) (i := 34) (fuel := 4) (by simp; rfl) (by kernel_rfl) (by kernel_rfl) (by kernel_rfl) (Or.inl ⟨by rfl, fun w' hS => Or.inl ⟨w', ?_, hS⟩⟩) ?_
        rotate_left
        · have z0 : w'.cell? ⟨gB, oB + k1 * 3, none⟩ = some (.int .u64 (x.set : Int)) := (hS.cell (p := ⟨gB, oB + k1 * 3, none⟩) hgV).trans ((HX7.out.cell (p := ⟨gB, oB + k1 * 3, none⟩) hgB).trans HC0.out)
          have z1 : w'.cell? ⟨gB, oB + k1 * 3 + 1, none⟩ = some (.int .i64 x.lv) := (hS.cell (p := ⟨gB, oB + k1 * 3 + 1, none⟩) hgV).trans ((HX7.out.cell (p := ⟨gB, oB + k1 * 3 + 1, none⟩) hgB).trans HC1.out)
          go_simp
          all_goals with_reducible rfl
        simp only [Act.put, List.setIfInBounds_toArray, List.set_cons_zero, List.set_cons_succ]
        refine det_take (v := ?_) (i := 35) (fuel := 3) (by simp; rfl) (by kernel_rfl) (by kernel_rfl) (by kernel_rfl) (Or.inl ⟨by rfl, fun w' hS => Or.inr ⟨12, #[.agg #[.int .u64 (k3 : Int), .int .i64 (k4 : Int)], .agg #[.int .u64 (x.set : Int), .int .i64 x.lv]], w', ?_, ?_⟩⟩) ?_
        rotate_left
        · go_simp
          all_goals with_reducible rfl
        · exact (HME.out w').mono fun e w2 h => ⟨by rw [h.1], hS.trans (h.2.mono hS.size)⟩
        simp only [Act.put, List.setIfInBounds_toArray, List.set_cons_zero, List.set_cons_succ]
        refine det_take (v := ?_) (i := 36) (fuel := 2) (by simp; rfl) (by kernel_rfl) (by kernel_rfl) (by kernel_rfl) (Or.inl ⟨by rfl, fun w' hS => Or.inr ⟨8, #[.agg #[.slice s.Ae ne s.ce, .slice s.Ag ng s.cg, .slice s.Ah nh s.ch, .slice s.Au nu s.cu, .slice s.Ar nr s.cr], .int .i64 (k1 : Int), .agg #[.int .u64 (mm : Int), .int .i64 mv]], w', ?_, ?_⟩⟩) ?_
        rotate_left
        · go_simp
          all_goals with_reducible rfl
        · exact (HSX2.out w' (HX7.out.trans (hS.mono HX7.out.size))).mono fun e w2 h => ⟨by rw [h.1], hS.trans (h.2.mono hS.size)⟩
        simp only [Act.put, List.setIfInBounds_toArray, List.set_cons_zero, List.set_cons_succ]
        refine det_take (v := ?_) (i := 37) (fuel := 1) (by simp; rfl) (by kernel_rfl) (by kernel_rfl) (by kernel_rfl) (Or.inl ⟨by rfl, fun w' hS => Or.inl ⟨w', ?_, hS⟩⟩) ?_
        rotate_left
        · go_simp
          all_goals with_reducible rfl
        simp only [Act.put, List.setIfInBounds_toArray, List.set_cons_zero, List.set_cons_succ]
        refine det_take (v := ?_) (i := 38) (fuel := 0) (by simp; rfl) (by kernel_rfl) (by kernel_rfl) (by kernel_rfl) (Or.inl ⟨by rfl, fun w' hS => Or.inl ⟨w', ?_, hS⟩⟩) ?_
        rotate_left
        · go_simp
          all_goals with_reducible rfl
        simp only [Act.put, List.setIfInBounds_toArray, List.set_cons_zero, List.set_cons_succ]
        refine det_done (by kernel_rfl) (fun V hV => ?_) _
        go_wp2
        go_ret
        exact ⟨rfl, HB1.out.trans ((HX7.out.trans (hV.mono HX7.out.size)).mono HB1.out.size)⟩
      · skip
        refine wp_region_det (S := fun V => Below W7.heap.size W7 V) (by kernel_rfl) (Below.refl W7.heap.size W7).drew ?_
        refine det_take (v := ?_) (i := 0) (fuel := 38) (by simp; rfl) (by kernel_rfl) (by kernel_rfl) (by kernel_rfl) (Or.inl ⟨by rfl, fun w' hS => Or.inr ⟨11, #[], w', ?_, ?_⟩⟩) ?_
        rotate_left
        · go_simp
          all_goals with_reducible rfl
        · exact (HKN.out w').mono fun e w2 h => ⟨by rw [h.1], hS.trans (h.2.mono hS.size)⟩
        simp only [Act.put, List.setIfInBounds_toArray, List.set_cons_zero, List.set_cons_succ]
        refine det_take (v := ?_) (i := 1) (fuel := 37) (by simp; rfl) (by kernel_rfl) (by kernel_rfl) (by kernel_rfl) (Or.inl ⟨by rfl, fun w' hS => Or.inl ⟨w', ?_, hS⟩⟩) ?_
        rotate_left
        · go_simp
          all_goals with_reducible rfl
        simp only [Act.put, List.setIfInBounds_toArray, List.set_cons_zero, List.set_cons_succ]
        refine det_take (v := ?_) (i := 2) (fuel := 36) (by simp; rfl) (by kernel_rfl) (by kernel_rfl) (by kernel_rfl) (Or.inl ⟨by rfl, fun w' hS => Or.inl ⟨w', ?_, hS⟩⟩) ?_
        rotate_left
        · have z0 : w'.cell? ⟨gg + 1, 0, none⟩ = some (.int .u64 (gn : Int)) := ((HC7.out.below hS HC7.out.lt).cell 0).trans rfl
          have z1 : w'.cell? ⟨gg + 1, 1, none⟩ = some (.int .i64 gv) := ((HC7.out.below hS HC7.out.lt).cell 1).trans rfl
          have zl := (HC7.out.below hS HC7.out.lt).lt
          go_simp
          all_goals with_reducible rfl
        simp only [Act.put, List.setIfInBounds_toArray, List.set_cons_zero, List.set_cons_succ]
        refine det_take (v := ?_) (i := 3) (fuel := 35) (by simp; rfl) (by kernel_rfl) (by kernel_rfl) (by kernel_rfl) (Or.inl ⟨by rfl, fun w' hS => Or.inl ⟨w', ?_, hS⟩⟩) ?_
        rotate_left
        · have z0 : w'.cell? ⟨gg, 0, none⟩ = some (.int .u64 (gn : Int)) := ((HG7.out.below hS HG7.out.lt).cell 0).trans rfl
          have z1 : w'.cell? ⟨gg, 1, none⟩ = some (.int .i64 gv) := ((HG7.out.below hS HG7.out.lt).cell 1).trans rfl
          have zl := (HG7.out.below hS HG7.out.lt).lt
          go_simp
          all_goals with_reducible rfl
        simp only [Act.put, List.setIfInBounds_toArray, List.set_cons_zero, List.set_cons_succ]
        refine det_take (v := ?_) (i := 4) (fuel := 34) (by simp; rfl) (by kernel_rfl) (by kernel_rfl) (by kernel_rfl) (Or.inl ⟨by rfl, fun w' hS => Or.inl ⟨w', ?_, hS⟩⟩) ?_
        rotate_left
        · go_simp
          all_goals with_reducible rfl
        simp only [Act.put, List.setIfInBounds_toArray, List.set_cons_zero, List.set_cons_succ]
        refine det_take (v := ?_) (i := 5) (fuel := 33) (by simp; rfl) (by kernel_rfl) (by kernel_rfl) (by kernel_rfl) (Or.inl ⟨by rfl, fun w' hS => Or.inl ⟨w', ?_, hS⟩⟩) ?_
        rotate_left
        · go_simp
          all_goals with_reducible rfl
        simp only [Act.put, List.setIfInBounds_toArray, List.set_cons_zero, List.set_cons_succ]
        refine det_take (v := ?_) (i := 6) (fuel := 32) (by simp; rfl) (by kernel_rfl) (by kernel_rfl) (by kernel_rfl) (Or.inl ⟨by rfl, fun w' hS => Or.inl ⟨w', ?_, hS⟩⟩) ?_
        rotate_left
        · go_simp
          all_goals with_reducible rfl
        simp only [Act.put, List.setIfInBounds_toArray, List.set_cons_zero, List.set_cons_succ]
        refine det_take (v := ?_) (i := 7) (fuel := 31) (by simp; rfl) (by kernel_rfl) (by kernel_rfl) (by kernel_rfl) (Or.inl ⟨by rfl, fun w' hS => Or.inl ⟨w', ?_, hS⟩⟩) ?_
        rotate_left
        · obtain ⟨l2, y0, y1, y2, y3, y4⟩ := PolBl.cells (Blk.below HP7.out hS (Blk.lt HP7.out))
          go_simp
          all_goals with_reducible rfl
        simp only [Act.put, List.setIfInBounds_toArray, List.set_cons_zero, List.set_cons_succ]
        refine det_take (v := ?_) (i := 8) (fuel := 30) (by simp; rfl) (by kernel_rfl) (by kernel_rfl) (by kernel_rfl) (Or.inl ⟨by rfl, fun w' hS => Or.inl ⟨w', ?_, hS⟩⟩) ?_
        rotate_left
        · go_simp
          all_goals with_reducible rfl
        simp only [Act.put, List.setIfInBounds_toArray, List.set_cons_zero, List.set_cons_succ]
        refine det_take (v := ?_) (i := 9) (fuel := 29) (by simp; rfl) (by kernel_rfl) (by kernel_rfl) (by kernel_rfl) (Or.inl ⟨by rfl, fun w' hS => Or.inl ⟨w', ?_, hS⟩⟩) ?_
        rotate_left
        · have z0 : w'.cell? ⟨gg, 0, none⟩ = some (.int .u64 (gn : Int)) := ((HG7.out.below hS HG7.out.lt).cell 0).trans rfl
          have z1 : w'.cell? ⟨gg, 1, none⟩ = some (.int .i64 gv) := ((HG7.out.below hS HG7.out.lt).cell 1).trans rfl
          have zl := (HG7.out.below hS HG7.out.lt).lt
          go_simp
          all_goals with_reducible rfl
        simp only [Act.put, List.setIfInBounds_toArray, List.set_cons_zero, List.set_cons_succ]
        refine det_take (v := ?_) (i := 10) (fuel := 28) (by simp; rfl) (by kernel_rfl) (by kernel_rfl) (by kernel_rfl) (Or.inl ⟨by rfl, fun w' hS => Or.inr ⟨8, #[.agg #[.slice s.Ae ne s.ce, .slice s.Ag ng s.cg, .slice s.Ah nh s.ch, .slice s.Au nu s.cu, .slice s.Ar nr s.cr], .int .i64 (k1 : Int), .agg #[.int .u64 (gn : Int), .int .i64 gv]], w', ?_, ?_⟩⟩) ?_
        rotate_left
        · go_simp
          all_goals with_reducible rfl
        · exact (HSG.out w' (HX7.out.trans (hS.mono HX7.out.size))).mono fun e w2 h => ⟨by rw [h.1], hS.trans (h.2.mono hS.size)⟩
        simp only [Act.put, List.setIfInBounds_toArray, List.set_cons_zero, List.set_cons_succ]
        refine det_take (v := ?_) (i := 11) (fuel := 27) (by simp; rfl) (by kernel_rfl) (by kernel_rfl) (by kernel_rfl) (Or.inl ⟨by rfl, fun w' hS => Or.inl ⟨w', ?_, hS⟩⟩) ?_
        rotate_left
        · go_simp
          all_goals with_reducible rfl
        simp only [Act.put, List.setIfInBounds_toArray, List.set_cons_zero, List.set_cons_succ]
        refine det_take (v := ?_) (i := 12) (fuel := 26) (by simp; rfl) (by kernel_rfl) (by kernel_rfl) (by kernel_rfl) (Or.inl ⟨by rfl, fun w' hS => Or.inl ⟨w', ?_, hS⟩⟩) ?_
        rotate_left
        · go_simp
          all_goals with_reducible rfl
        simp only [Act.put, List.setIfInBounds_toArray, List.set_cons_zero, List.set_cons_succ]
        refine det_take (v := ?_) (i := 13) (fuel := 25) (by simp; rfl) (by kernel_rfl) (by kernel_rfl) (by kernel_rfl) (Or.inl ⟨by rfl, fun w' hS => Or.inl ⟨w', ?_, hS⟩⟩) ?_
        rotate_left
        · obtain ⟨l2, y0, y1, y2, y3, y4⟩ := pol5 (HQ7.out.below hS HQ7.out.lt)
          go_simp
          all_goals with_reducible rfl
        simp only [Act.put, List.setIfInBounds_toArray, List.set_cons_zero, List.set_cons_succ]
        refine det_take (v := ?_) (i := 14) (fuel := 24) (by simp; rfl) (by kernel_rfl) (by kernel_rfl) (by kernel_rfl) (Or.inl ⟨by rfl, fun w' hS => Or.inl ⟨w', ?_, hS⟩⟩) ?_
        rotate_left
        · go_simp
          all_goals with_reducible rfl
        simp only [Act.put, List.setIfInBounds_toArray, List.set_cons_zero, List.set_cons_succ]
        refine det_take (v := ?_) (i := 15) (fuel := 23) (by simp; rfl) (by kernel_rfl) (by kernel_rfl) (by kernel_rfl) (Or.inl ⟨by rfl, fun w' hS => Or.inl ⟨w', ?_, hS⟩⟩) ?_
        rotate_left
        · have z0 : w'.cell? ⟨gg, 0, none⟩ = some (.int .u64 (gn : Int)) := ((HG7.out.below hS HG7.out.lt).cell 0).trans rfl
          have z1 : w'.cell? ⟨gg, 1, none⟩ = some (.int .i64 gv) := ((HG7.out.below hS HG7.out.lt).cell 1).trans rfl
          have zl := (HG7.out.below hS HG7.out.lt).lt
          go_simp
          all_goals with_reducible rfl
        simp only [Act.put, List.setIfInBounds_toArray, List.set_cons_zero, List.set_cons_succ]
        refine det_take (v := ?_) (i := 16) (fuel := 22) (by simp; rfl) (by kernel_rfl) (by kernel_rfl) (by kernel_rfl) (Or.inl ⟨by rfl, fun w' hS => Or.inr ⟨8, #[.agg #[.slice s.Ae ne s.ce, .slice s.Ag ng s.cg, .slice (some ⟨gw, ow, none⟩) nh cw, .slice s.Au nu s.cu, .slice s.Ar nr s.cr], .int .i64 (k1 : Int), .agg #[.int .u64 (gn : Int), .int .i64 gv]], w', ?_, ?_⟩⟩) ?_
        rotate_left
        · go_simp
          all_goals with_reducible rfl
        · exact (HS1.out w' hS rfl).mono fun e w2 h => ⟨by rw [h.1], hS.trans (h.2.mono hS.size)⟩
        simp only [Act.put, List.setIfInBounds_toArray, List.set_cons_zero, List.set_cons_succ]
        refine det_take (v := ?_) (i := 17) (fuel := 21) (by simp; rfl) (by kernel_rfl) (by kernel_rfl) (by kernel_rfl) (Or.inl ⟨by rfl, fun w' hS => Or.inl ⟨w', ?_, hS⟩⟩) ?_
        rotate_left
        · go_simp
          all_goals with_reducible rfl
        simp only [Act.put, List.setIfInBounds_toArray, List.set_cons_zero, List.set_cons_succ]
        refine det_take (v := ?_) (i := 18) (fuel := 20) (by simp; rfl) (by kernel_rfl) (by kernel_rfl) (by kernel_rfl) (Or.inl ⟨by rfl, fun w' hS => Or.inl ⟨w', ?_, hS⟩⟩) ?_
        rotate_left
        · go_simp
          all_goals with_reducible rfl
        simp only [Act.put, List.setIfInBounds_toArray, List.set_cons_zero, List.set_cons_succ]
        refine det_take (v := ?_) (i := 19) (fuel := 19) (by simp; rfl) (by kernel_rfl) (by kernel_rfl) (by kernel_rfl) (Or.inl ⟨by rfl, fun w' hS => Or.inl ⟨w', ?_, hS⟩⟩) ?_
        rotate_left
        · go_simp
          all_goals with_reducible rfl
        simp only [Act.put, List.setIfInBounds_toArray, List.set_cons_zero, List.set_cons_succ]
        refine det_take (v := ?_) (i := 20) (fuel := 18) (by simp; rfl) (by kernel_rfl) (by kernel_rfl) (by kernel_rfl) (Or.inl ⟨by rfl, fun w' hS => Or.inl ⟨w', ?_, hS⟩⟩) ?_
        rotate_left
        · obtain ⟨l2, y0, y1, y2, y3, y4⟩ := pol5 (HQ7.out.below hS HQ7.out.lt)
          go_simp
          all_goals with_reducible rfl
        simp only [Act.put, List.setIfInBounds_toArray, List.set_cons_zero, List.set_cons_succ]
        refine det_take (v := ?_) (i := 21) (fuel := 17) (by simp; rfl) (by kernel_rfl) (by kernel_rfl) (by kernel_rfl) (Or.inl ⟨by rfl, fun w' hS => Or.inl ⟨w', ?_, hS⟩⟩) ?_
        rotate_left
        · go_simp
          all_goals with_reducible rfl
        simp only [Act.put, List.setIfInBounds_toArray, List.set_cons_zero, List.set_cons_succ]
        refine det_take (v := ?_) (i := 22) (fuel := 16) (by simp; rfl) (by kernel_rfl) (by kernel_rfl) (by kernel_rfl) (Or.inl ⟨by rfl, fun w' hS => Or.inl ⟨w', ?_, hS⟩⟩) ?_
        rotate_left
        · have z0 : w'.cell? ⟨gx, 0, none⟩ = some (.int .u64 (k3 : Int)) := ((HL7.out.below hS HL7.out.lt).cell 0).trans rfl
          have z1 : w'.cell? ⟨gx, 1, none⟩ = some (.int .i64 (k4 : Int)) := ((HL7.out.below hS HL7.out.lt).cell 1).trans rfl
          have zl := (HL7.out.below hS HL7.out.lt).lt
          go_simp
          all_goals with_reducible rfl
        simp only [Act.put, List.setIfInBounds_toArray, List.set_cons_zero, List.set_cons_succ]
        refine det_take (v := ?_) (i := 23) (fuel := 15) (by simp; rfl) (by kernel_rfl) (by kernel_rfl) (by kernel_rfl) (Or.inl ⟨by rfl, fun w' hS => Or.inr ⟨8, #[.agg #[.slice s.Ae ne s.ce, .slice s.Ag ng s.cg, .slice (some ⟨gw, ow, none⟩) nh cw, .slice s.Au nu s.cu, .slice s.Ar nr s.cr], .int .i64 (k1 : Int), .agg #[.int .u64 (k3 : Int), .int .i64 (k4 : Int)]], w', ?_, ?_⟩⟩) ?_
        rotate_left
        · go_simp
          all_goals with_reducible rfl
        · exact (HS2.out w' hS).mono fun e w2 h => ⟨by rw [h.1], hS.trans (h.2.mono hS.size)⟩
        simp only [Act.put, List.setIfInBounds_toArray, List.set_cons_zero, List.set_cons_succ]
        refine det_take (v := ?_) (i := 24) (fuel := 14) (by simp; rfl) (by kernel_rfl) (by kernel_rfl) (by kernel_rfl) (Or.inl ⟨by rfl, fun w' hS => Or.inl ⟨w', ?_, hS⟩⟩) ?_
        rotate_left
        · go_simp
          all_goals with_reducible rfl
        simp only [Act.put, List.setIfInBounds_toArray, List.set_cons_zero, List.set_cons_succ]
        refine det_take (v := ?_) (i := 25) (fuel := 13) (by simp; rfl) (by kernel_rfl) (by kernel_rfl) (by kernel_rfl) (Or.inl ⟨by rfl, fun w' hS => Or.inl ⟨w', ?_, hS⟩⟩) ?_
        rotate_left
        · go_simp
          all_goals with_reducible rfl
        simp only [Act.put, List.setIfInBounds_toArray, List.set_cons_zero, List.set_cons_succ]
        refine det_take (v := ?_) (i := 26) (fuel := 12) (by simp; rfl) (by kernel_rfl) (by kernel_rfl) (by kernel_rfl) (Or.inl ⟨by rfl, fun w' hS => Or.inl ⟨w', ?_, hS⟩⟩) ?_
        rotate_left
        · obtain ⟨l2, y0, y1, y2, y3, y4⟩ := PolBl.cells (Blk.below HP7.out hS (Blk.lt HP7.out))
          go_simp
          all_goals with_reducible rfl
        simp only [Act.put, List.setIfInBounds_toArray, List.set_cons_zero, List.set_cons_succ]
        refine det_take (v := ?_) (i := 27) (fuel := 11) (by simp; rfl) (by kernel_rfl) (by kernel_rfl) (by kernel_rfl) (Or.inl ⟨by rfl, fun w' hS => Or.inl ⟨w', ?_, hS⟩⟩) ?_
        rotate_left
        · go_simp
          all_goals with_reducible rfl
        simp only [Act.put, List.setIfInBounds_toArray, List.set_cons_zero, List.set_cons_succ]
        refine det_take (v := ?_) (i := 28) (fuel := 10) (by simp; rfl) (by kernel_rfl) (by kernel_rfl) (by kernel_rfl) (Or.inl ⟨by rfl, fun w' hS => Or.inl ⟨w', ?_, hS⟩⟩) ?_
        rotate_left
        · have z0 : w'.cell? ⟨gx, 0, none⟩ = some (.int .u64 (k3 : Int)) := ((HL7.out.below hS HL7.out.lt).cell 0).trans rfl
          have z1 : w'.cell? ⟨gx, 1, none⟩ = some (.int .i64 (k4 : Int)) := ((HL7.out.below hS HL7.out.lt).cell 1).trans rfl
          have zl := (HL7.out.below hS HL7.out.lt).lt
          go_simp
          all_goals with_reducible rfl
        simp only [Act.put, List.setIfInBounds_toArray, List.set_cons_zero, List.set_cons_succ]
        refine det_take (v := ?_) (i := 29) (fuel := 9) (by simp; rfl) (by kernel_rfl) (by kernel_rfl) (by kernel_rfl) (Or.inl ⟨by rfl, fun w' hS => Or.inl ⟨w', ?_, hS⟩⟩) ?_
        rotate_left
        · obtain ⟨l2, y0, y1, y2, y3, y4⟩ := PolBl.cells (Blk.below HP7.out hS (Blk.lt HP7.out))
          go_simp
          all_goals with_reducible rfl
        simp only [Act.put, List.setIfInBounds_toArray, List.set_cons_zero, List.set_cons_succ]
        refine det_take (v := ?_) (i := 30) (fuel := 8) (by simp; rfl) (by kernel_rfl) (by kernel_rfl) (by kernel_rfl) (Or.inl ⟨by rfl, fun w' hS => Or.inl ⟨w', ?_, hS⟩⟩) ?_
        rotate_left
        · obtain ⟨l2, y0, y1, y2, y3, y4⟩ := PolBl.cells (Blk.below HP7.out hS (Blk.lt HP7.out))
          rw [HAB.out] at y2
          go_simp
          all_goals with_reducible rfl
        simp only [Act.put, List.setIfInBounds_toArray, List.set_cons_zero, List.set_cons_succ]
        refine det_take (v := ?_) (i := 31) (fuel := 7) (by simp; rfl) (by kernel_rfl) (by kernel_rfl) (by kernel_rfl) (Or.inl ⟨by rfl, fun w' hS => Or.inl ⟨w', ?_, hS⟩⟩) ?_
        rotate_left
        · go_simp
          all_goals with_reducible rfl
        simp only [Act.put, List.setIfInBounds_toArray, List.set_cons_zero, List.set_cons_succ]
        refine det_take (v := ?_) (i := 32) (fuel := 6) (by simp; rfl) (by kernel_rfl) (by kernel_rfl) (by kernel_rfl) (Or.inl ⟨by rfl, fun w' hS => Or.inl ⟨w', ?_, hS⟩⟩) ?_
        rotate_left
        · go_simp
          all_goals with_reducible rfl
        simp only [Act.put, List.setIfInBounds_toArray, List.set_cons_zero, List.set_cons_succ]
        refine det_take (v := ?_) (i := 33) (fuel := 5) (by simp; rfl) (by kernel_rfl) (by kernel_rfl) (by kernel_rfl) (Or.inl ⟨by rfl, fun w' hS => Or.inl ⟨w', ?_, hS⟩⟩) ?_
        rotate_left
        · go_simp
          all_goals with_reducible rfl
        simp only [Act.put, List.setIfInBounds_toArray, List.set_cons_zero, List.set_cons_succ]
        refine det_take (v := ?_) (i := 34) (fuel := 4) (by simp; rfl) (by kernel_rfl) (by kernel_rfl) (by kernel_rfl) (Or.inl ⟨by rfl, fun w' hS => Or.inl ⟨w', ?_, hS⟩⟩) ?_
        rotate_left
        · have z0 : w'.cell? ⟨gB, oB + k1 * 3, none⟩ = some (.int .u64 (x.set : Int)) := (hS.cell (p := ⟨gB, oB + k1 * 3, none⟩) hgV).trans ((HX7.out.cell (p := ⟨gB, oB + k1 * 3, none⟩) hgB).trans HC0.out)
          have z1 : w'.cell? ⟨gB, oB + k1 * 3 + 1, none⟩ = some (.int .i64 x.lv) := (hS.cell (p := ⟨gB, oB + k1 * 3 + 1, none⟩) hgV).trans ((HX7.out.cell (p := ⟨gB, oB + k1 * 3 + 1, none⟩) hgB).trans HC1.out)
          go_simp
          all_goals with_reducible rfl
        simp only [Act.put, List.setIfInBounds_toArray, List.set_cons_zero, List.set_cons_succ]
        refine det_take (v := ?_) (i := 35) (fuel := 3) (by simp; rfl) (by kernel_rfl) (by kernel_rfl) (by kernel_rfl) (Or.inl ⟨by rfl, fun w' hS => Or.inr ⟨12, #[.agg #[.int .u64 (k3 : Int), .int .i64 (k4 : Int)], .agg #[.int .u64 (x.set : Int), .int .i64 x.lv]], w', ?_, ?_⟩⟩) ?_
        rotate_left
        · go_simp
          all_goals with_reducible rfl
        · exact (HME.out w').mono fun e w2 h => ⟨by rw [h.1], hS.trans (h.2.mono hS.size)⟩
        simp only [Act.put, List.setIfInBounds_toArray, List.set_cons_zero, List.set_cons_succ]
        refine det_take (v := ?_) (i := 36) (fuel := 2) (by simp; rfl) (by kernel_rfl) (by kernel_rfl) (by kernel_rfl) (Or.inl ⟨by rfl, fun w' hS => Or.inr ⟨8, #[.agg #[.slice s.Ae ne s.ce, .slice s.Ag ng s.cg, .slice s.Ah nh s.ch, .slice s.Au nu s.cu, .slice s.Ar nr s.cr], .int .i64 (k1 : Int), .agg #[.int .u64 (mm : Int), .int .i64 mv]], w', ?_, ?_⟩⟩) ?_
        rotate_left
        · go_simp
          all_goals with_reducible rfl
        · exact (HSX2.out w' (HX7.out.trans (hS.mono HX7.out.size))).mono fun e w2 h => ⟨by rw [h.1], hS.trans (h.2.mono hS.size)⟩
        simp only [Act.put, List.setIfInBounds_toArray, List.set_cons_zero, List.set_cons_succ]
        refine det_take (v := ?_) (i := 37) (fuel := 1) (by simp; rfl) (by kernel_rfl) (by kernel_rfl) (by kernel_rfl) (Or.inl ⟨by rfl, fun w' hS => Or.inl ⟨w', ?_, hS⟩⟩) ?_
        rotate_left
        · go_simp
          all_goals with_reducible rfl
        simp only [Act.put, List.setIfInBounds_toArray, List.set_cons_zero, List.set_cons_succ]
        refine det_take (v := ?_) (i := 38) (fuel := 0) (by simp; rfl) (by kernel_rfl) (by kernel_rfl) (by kernel_rfl) (Or.inl ⟨by rfl, fun w' hS => Or.inl ⟨w', ?_, hS⟩⟩) ?_
        rotate_left
        · go_simp
          all_goals with_reducible rfl
        simp only [Act.put, List.setIfInBounds_toArray, List.set_cons_zero, List.set_cons_succ]
        refine det_done (by kernel_rfl) (fun V hV => ?_) _
        go_wp2
        go_ret
        exact ⟨rfl, HB1.out.trans ((HX7.out.trans (hV.mono HX7.out.size)).mono HB1.out.size)⟩
end Go.Proofs.Ytakofbkbbmpfeab

/- rule.Group. -/
/- RuleSees, plainly: who sees what, of labels joined; a policy of other principals. -/
import Derived.Test.YtakofbkbbmpfeabRulF
import Derived.Test.YtakofbkbbmpfeabRulL
namespace Go.Proofs.Ytakofbkbbmpfeab
open Go.RowKit
/-- Under way: the Join of the first j members' labels lies in block gc. -/
def GrpRel2 (W : World) (A : Option Addr) (gc : Nat) (P : PolP) (L : List Nat) (i : Value) (wr : World) : Prop :=
  ∃ j : Nat, j ≤ L.length ∧ i = .int .i64 j ∧ Blk wr gc 33 #[.int .u64 ((joinL true P (L.take j)).1 : Int), .int .i64 (joinL true P (L.take j)).2] ∧ NsA wr A L ∧ Below gc W wr
theorem joinL_next {β : Bool} {P : PolP} {L : List Nat} {j e : Nat} (h : L[j]? = some e) : joinL β P (L.take (j + 1)) = ((joinL β P (L.take j)).1 ||| (entLab β P (e : Int)).1, max (joinL β P (L.take j)).2 (entLab β P (e : Int)).2) := by rw [take_next h, joinL_snoc]
set_option maxRecDepth 100000 in
set_option maxHeartbeats 3200000 in
theorem ruGroup_c (s : Slp) (P : PolP) (w : World) (ne ng nh nu nr : Nat) (h : PolRd w w.heap.size s P) (hwd : PolWd P) (hne : P.ents.length = ne) (hng : P.grp.length = ng) (hnh : P.who.length = nh) (hnu : P.up.length = nu) (hnr : P.rules.length = nr) (β : Bool) (hβ : β = true ↔ RightPol P) (k : Int) (n : Nat) (v : Int) (hv : grpLab β P k = (n, v)) :
    Calls Try.prog 6 #[.agg #[.slice s.Ae ne s.ce, .slice s.Ag ng s.cg, .slice s.Ah nh s.ch, .slice s.Au nu s.cu, .slice s.Ar nr s.cr], .int .i64 k] w (RetL w n v) := by
  obtain ⟨gp, hgp⟩ : ∃ g, w.heap.size = g := ⟨_, rfl⟩
  obtain ⟨W, hW⟩ : ∃ V, (w.alloc (.cells #[.slice s.Ae ne s.ce, .slice s.Ag ng s.cg, .slice s.Ah nh s.ch, .slice s.Au nu s.cu, .slice s.Ar nr s.cr] 28)).alloc (.cells #[.int .u64 0, .int .i64 0] 33) = V := ⟨_, rfl⟩
  have HBW := Lib.hid (show Below w.heap.size w W from by rw [← hW]; exact bel_alloc (bel_alloc (Below.refl _ _) _) _)
  have HPB := Lib.hid (show PolBl W gp s ne ng nh nu nr from by rw [← hW, ← hgp]; exact (Blk.new _ _ _).alloc _)
  have HLB := Lib.hid (show Blk W (gp + 1) 33 #[.int .u64 0, .int .i64 0] from by rw [← hW, ← hgp]; have h := Blk.new (w.alloc (.cells #[.slice s.Ae ne s.ce, .slice s.Ag ng s.cg, .slice s.Ah nh s.ch, .slice s.Au nu s.cu, .slice s.Ar nr s.cr] 28)) 33 #[.int .u64 0, .int .i64 0]; simpa using h)
  have HRD := Lib.hid (h.below HBW.out)
  have HRP := Lib.hid (ruRight_c s P W ne ng nh nu nr ((h.below HBW.out).more HBW.out.size) hwd hne hng hnh hnu hnr β hβ)
  have HAK := Lib.hid (fun (V : World) (b : Bool) (e : (decide (0 ≤ k) && decide (k < (ng : Int))) = b) => among_c k (ng : Int) b V e)
  have HV := Lib.hid hv
  have HWG := Lib.hid hwd.1
  have hle := hwd.2.2.2.1
  have hlg := hwd.2.2.2.2.1
  rw [hne] at hle
  rw [hng] at hlg
  have HNE := Lib.hid hne
  have HNG := Lib.hid hng
  have HBT := Lib.hid hβ
  obtain ⟨lp, x0, x1, x2, x3, x4⟩ := HPB.out.cells
  have hgs : gp + 1 < W.heap.size := HLB.out.lt
  have HGP := Lib.hid hgp
  clear h hwd hng hnh hnu hnr hβ hv hne
  go_enter Try.func6, Try.ntmps6
  go_wp2_with fail
  (with_reducible refine HRP.out.mono ?_)
  rintro e w1 ⟨rfl, hb⟩
  have HB1 := Lib.hid (HBW.out.trans (hb.mono HBW.out.size))
  have HP1 := Lib.hid (show PolBl w1 gp s ne ng nh nu nr from Blk.below HPB.out hb (Blk.lt HPB.out))
  have HL1 := Lib.hid (HLB.out.below hb HLB.out.lt)
  have HR1 := Lib.hid (HRD.out.below (hb.mono HBW.out.size))
  clear hb HPB HLB HRD HRP hW hgp lp x0 x1 x2 x3 x4
  obtain ⟨lp, x0, x1, x2, x3, x4⟩ := HP1.out.cells
  have y0 : w1.cell? ⟨gp + 1, 0, none⟩ = some (.int .u64 0) := (HL1.out.cell 0).trans rfl
  have y1 : w1.cell? ⟨gp + 1, 1, none⟩ = some (.int .i64 0) := (HL1.out.cell 1).trans rfl
  have yl := HL1.out.lt
  have f0 := HL1.out.frozen 0
  have f1 := HL1.out.frozen 1
  have hgw : w.heap.size ≤ gp + 1 := by have := HGP.out; omega
  cases β
  · have k12 : True := trivial
    obtain ⟨rfl, rfl⟩ : n = 0 ∧ v = 0 := by
      have h := HV.out
      unfold grpLab at h
      rw [if_neg (by rw [HNG.out]; rintro ⟨h1, h2, h3⟩; first | exact k12 ⟨h2, h3⟩ | cases h1)] at h
      injection h with h1 h2
      exact ⟨h1.symm, h2.symm⟩
    go_wp2
    obtain ⟨W5, hW5⟩ : ∃ V, (w1.setCell ⟨gp + 1, 0, none⟩ (.int .u64 0)).setCell ⟨gp + 1, 1, none⟩ (.int .i64 0) = V := ⟨_, rfl⟩
    have hQ5 : Blk W5 (gp + 1) 33 #[.int .u64 0, .int .i64 0] := by rw [← hW5]; have h := (HL1.out.set_ 0 (.int .u64 0)).set_ 1 (.int .i64 0); simpa using h
    have hB5 : Below w.heap.size w W5 := by rw [← hW5]; exact (HB1.out.setCell (p := ⟨gp + 1, 0, none⟩) hgw _).setCell (p := ⟨gp + 1, 1, none⟩) hgw _
    rw [hW5]
    have q0 : W5.cell? ⟨gp + 1, 0, none⟩ = some (.int .u64 0) := (hQ5.cell 0).trans rfl
    have q1 : W5.cell? ⟨gp + 1, 1, none⟩ = some (.int .i64 0) := (hQ5.cell 1).trans rfl
    exact bodyPost_ret (v := .agg #[.int .u64 0, .int .i64 0]) (by simp [results, Try.results6, go_sem, q0, q1]) rfl ⟨rfl, hB5⟩
  · by_cases k12 : 0 ≤ k ∧ k < (ng : Int)
    · have HAKm := Lib.hid (fun V => HAK.out V true (by rw [decide_eq_true k12.1, decide_eq_true k12.2]; rfl))
      obtain ⟨k1, k2⟩ := k12
      obtain ⟨i, rfl⟩ : ∃ i : Nat, k = (i : Int) := ⟨k.toNat, by omega⟩
      obtain ⟨G, hG⟩ := get_at (l := P.grp) (k := i) (by rw [HNG.out]; omega)
      have hRP := HBT.out.1 (by first | rfl | trivial)
      have he8 := hRP.1.1.2
      have hGn := (hRP.2.2.1 i G hG).2
      rw [HNE.out] at he8 hGn
      have HLE := Lib.hid hRP.2.1
      have hQ : joinL true P (memL G) = (n, v) := by
        have h := HV.out
        unfold grpLab at h
        rw [if_pos ⟨rfl, k1, by rw [HNG.out]; exact k2⟩, Int.toNat_natCast, hG, HNE.out] at h
        rw [joinL_all hGn he8]
        exact h
      have HQ := Lib.hid hQ
      have HGN := Lib.hid hGn
      have hGw := HWG.out _ (List.mem_of_getElem? hG)
      obtain ⟨g, o, hA, hg, hc0⟩ := rd_u HR1.out.2.1 (by rw [HNG.out]; omega) hG
      have hg1 : g < w1.heap.size := by have := HB1.out.size; omega
      have HMM := Lib.hid (fun V : World => members_c G (G : Int) 0 V rfl hGw)
      obtain ⟨gc, hgc⟩ : ∃ g, w1.heap.size = g := ⟨_, rfl⟩
      obtain ⟨W2, hW2⟩ : ∃ V, w1.alloc (.cells #[.int .u64 0, .int .i64 0] 33) = V := ⟨_, rfl⟩
      have HC2 := Lib.hid (show Blk W2 gc 33 #[.int .u64 0, .int .i64 0] from by rw [← hW2, ← hgc]; exact Blk.new _ _ _)
      have HS2 := Lib.hid (show Below w1.heap.size w1 W2 from by rw [← hW2]; exact bel_alloc (Below.refl _ _) _)
      have hgpc : gp + 1 < gc := by rw [← hgc]; exact HL1.out.lt
      have HGC := Lib.hid hgc
      have HP2 := Lib.hid (show PolBl W2 gp s ne ng nh nu nr from Blk.below HP1.out HS2.out (Blk.lt HP1.out))
      have HL2 := Lib.hid (HL1.out.below HS2.out HL1.out.lt)
      have HB2 := Lib.hid (HB1.out.trans (HS2.out.mono HB1.out.size))
      have HR2 := Lib.hid (HR1.out.below (HS2.out.mono HB1.out.size))
      obtain ⟨vp, v0, v1, v2, v3, v4⟩ := HP2.out.cells
      rw [hA] at v1
      have hc2 : W2.cell? ⟨g, o + i, none⟩ = some (.int .u64 (G : Int)) := (HS2.out.cell (p := ⟨g, o + i, none⟩) hg1).trans hc0
      clear hQ hG HV hA hRP hGn
      go_wp2_with fail
      (with_reducible refine (HAKm.out _).mono ?_)
      rintro e w3 ⟨rfl, rfl⟩
      go_wp2_with fail
      (with_reducible refine (HMM.out _).mono ?_)
      rintro e W3 ⟨A, c, rfl, hN, hb⟩
      obtain ⟨L, hL⟩ : ∃ L, memL G = L := ⟨_, rfl⟩
      have HLL := Lib.hid hL
      rw [hL] at hN HQ
      have hL8 : L.length ≤ 8 := by rw [← hL]; exact memL_le G
      rw [hL]
      have HN3 := Lib.hid hN
      have HC3 := Lib.hid (HC2.out.below hb HC2.out.lt)
      have HP3 := Lib.hid (show PolBl W3 gp s ne ng nh nu nr from Blk.below HP2.out hb (Blk.lt HP2.out))
      have HL3 := Lib.hid (HL2.out.below hb HL2.out.lt)
      have HB3 := Lib.hid (HB2.out.trans (hb.mono HB2.out.size))
      have HR3 := Lib.hid (HR2.out.below (hb.mono HB2.out.size))
      clear hb hN hL hW2 hgc lp x0 x1 x2 x3 x4 y0 y1 yl f0 f1 vp v0 v1 v2 v3 v4 hc0 hc2
      go_wp2
      go_loopw [28] (fun i wr => GrpRel2 W3 A gc P L i wr) (fun i _ => L.length - (intOf i).toNat)
      case atStart => exact ⟨0, by omega, rfl, HC3.out, HN3.out, Below.refl _ _⟩
      case round =>
        obtain ⟨j, hj, rfl, hC, hN, hb⟩ := hrel
        have HCr := Lib.hid hC
        have HNr := Lib.hid hN
        have hgc3 : gc ≤ W3.heap.size := by have := HC3.out.lt; omega
        have HPr := Lib.hid (show PolBl wr gp s ne ng nh nu nr from Blk.below HP3.out hb (by omega))
        have HLr := Lib.hid (HL3.out.below hb (by omega))
        have HRr := Lib.hid (HR3.out.below (hb.mono (by have := HGP.out; omega)))
        have HBr := Lib.hid (HB3.out.trans (hb.mono (by have := HGP.out; omega)))
        have HBB := Lib.hid hb
        clear hC hN hb
        obtain ⟨lp, x0, x1, x2, x3, x4⟩ := HPr.out.cells
        obtain ⟨a, ha⟩ : ∃ a, (joinL true P (L.take j)).1 = a := ⟨_, rfl⟩
        obtain ⟨u, hu⟩ : ∃ u, (joinL true P (L.take j)).2 = u := ⟨_, rfl⟩
        have hal := joinL_lt true P (L.take j)
        rw [ha] at hal
        rw [ha, hu] at HCr
        have HA := Lib.hid ha
        have HU := Lib.hid hu
        clear ha hu
        have y0 : wr.cell? ⟨gp + 1, 0, none⟩ = some (.int .u64 0) := (HLr.out.cell 0).trans rfl
        have y1 : wr.cell? ⟨gp + 1, 1, none⟩ = some (.int .i64 0) := (HLr.out.cell 1).trans rfl
        have yl := HLr.out.lt
        have f0 := HLr.out.frozen 0
        have f1 := HLr.out.frozen 1
        have c0 : wr.cell? ⟨gc, 0, none⟩ = some (.int .u64 (a : Int)) := (HCr.out.cell 0).trans rfl
        have c1 : wr.cell? ⟨gc, 1, none⟩ = some (.int .i64 u) := (HCr.out.cell 1).trans rfl
        have cl := HCr.out.lt
        by_cases hlt : j < L.length
        · have hlt' : (j : Int) < (L.length : Int) := by omega
          obtain ⟨e, he⟩ := get_at hlt
          obtain ⟨gm, rfl, hgm, hcm⟩ := HNr.out.lt j hlt
          have hLj : L[j] = e := (List.getElem?_eq_some_iff.1 he).2
          rw [hLj] at hcm
          have hmem : e ∈ memL G := by rw [HLL.out]; exact List.mem_of_getElem? he
          have he7 := memL_lt hmem
          have hen : e < ne := by
            rcases Nat.lt_or_ge e ne with h | h
            · exact h
            · have hb := (memL_mem.1 hmem).2
              rw [Nat.testBit_lt_two_pow (Nat.lt_of_lt_of_le HGN.out (Nat.pow_le_pow_right (by decide) h))] at hb
              cases hb
          have hen' : (e : Int) < (ne : Int) := by omega
          obtain ⟨x, hx⟩ := get_at (l := P.ents) (k := e) (by rw [HNE.out]; exact hen)
          obtain ⟨g1, o1, hA1, hg1, d0, _⟩ := rd_ent HRr.out.1 (by rw [HNE.out]; omega) hx
          obtain ⟨lv, sc, pa, sh⟩ := x
          dsimp only at d0
          obtain ⟨m, q, hmq⟩ : ∃ m q, entLab true P (e : Int) = (m, q) := ⟨_, _, rfl⟩
          have hml := entLab_lt true P (e : Int)
          rw [hmq] at hml
          dsimp only at hml
          obtain ⟨hX, hY⟩ : ofSet (e : Int) = m ∧ min (max lv 0) 3 = q := by
            have h := hmq
            unfold entLab at h
            rw [if_pos ⟨rfl, by omega, by rw [HNE.out]; exact hen'⟩, Int.toNat_natCast, hx] at h
            injection h with h1 h2
            exact ⟨h1, h2⟩
          have RO := Lib.hid (fun V : World => by have h := labOf_c (e : Int) lv V; rw [hX, hY] at h; exact h)
          have HMQ := Lib.hid hmq
          have HE := Lib.hid he
          have HA1 := Lib.hid hA1
          have hgW : g1 < wr.heap.size := by have := HBr.out.size; omega
          have HD0 := Lib.hid d0
          obtain ⟨t, ht⟩ : ∃ t, max u q = t := ⟨_, rfl⟩
          have HJ := Lib.hid (fun V : World => by have h := join_c a m (a : Int) (m : Int) u q V rfl rfl (by omega) (by omega); rw [ht] at h; exact h)
          have HT := Lib.hid ht
          have he0 : (0 : Int) ≤ (e : Int) := by omega
          clear hmq ht hX hY hA1 d0 he hmem hLj hx
          go_wp2_with fail
          clear lp x0 x1 x2 x3 x4 y0 y1 yl f0 f1 c0 c1 cl hcm
          refine wp_region_ordz (S := fun V => Below wr.heap.size wr V) (z := 10) (by kernel_rfl) ?_
          refine ordz_take (v := ?_) (i := 0) (fuel := 10) (by simp; rfl) (by kernel_rfl) (by kernel_rfl) (by kernel_rfl) (by kernel_rfl) (Or.inl ⟨by rfl, fun w' hSw => ?_⟩) (Below.refl wr.heap.size wr).drew ?_
          rotate_left
          · have z0 : w'.cell? ⟨gc, 0, none⟩ = some (.int .u64 (a : Int)) := ((HCr.out.below hSw HCr.out.lt).cell 0).trans rfl
            have z1 : w'.cell? ⟨gc, 1, none⟩ = some (.int .i64 u) := ((HCr.out.below hSw HCr.out.lt).cell 1).trans rfl
            have zl := (HCr.out.below hSw HCr.out.lt).lt
            go_simp
            all_goals with_reducible rfl
          simp only [Act.put, List.setIfInBounds_toArray, List.set_cons_zero, List.set_cons_succ]
          refine ordz_take (v := ?_) (i := 1) (fuel := 9) (by simp; rfl) (by kernel_rfl) (by kernel_rfl) (by kernel_rfl) (by kernel_rfl) (Or.inl ⟨by rfl, fun w' hSw => ?_⟩) (Below.refl wr.heap.size wr).drew ?_
          rotate_left
          · go_simp
            all_goals with_reducible rfl
          simp only [Act.put, List.setIfInBounds_toArray, List.set_cons_zero, List.set_cons_succ]
          refine ordz_take (v := ?_) (i := 2) (fuel := 8) (by simp; rfl) (by kernel_rfl) (by kernel_rfl) (by kernel_rfl) (by kernel_rfl) (Or.inl ⟨by rfl, fun w' hSw => ?_⟩) (Below.refl wr.heap.size wr).drew ?_
          rotate_left
          · obtain ⟨lp, x0, x1, x2, x3, x4⟩ := PolBl.cells (Blk.below HPr.out hSw (Blk.lt HPr.out))
            go_simp
            all_goals with_reducible rfl
          simp only [Act.put, List.setIfInBounds_toArray, List.set_cons_zero, List.set_cons_succ]
          refine ordz_take (v := ?_) (i := 3) (fuel := 7) (by simp; rfl) (by kernel_rfl) (by kernel_rfl) (by kernel_rfl) (by kernel_rfl) (Or.inl ⟨by rfl, fun w' hSw => ?_⟩) (Below.refl wr.heap.size wr).drew ?_
          rotate_left
          · obtain ⟨lp, x0, x1, x2, x3, x4⟩ := PolBl.cells (Blk.below HPr.out hSw (Blk.lt HPr.out))
            rw [HA1.out] at x0
            go_simp
            all_goals with_reducible rfl
          simp only [Act.put, List.setIfInBounds_toArray, List.set_cons_zero, List.set_cons_succ]
          refine ordz_take (v := ?_) (i := 4) (fuel := 6) (by simp; rfl) (by kernel_rfl) (by kernel_rfl) (by kernel_rfl) (by kernel_rfl) (Or.inl ⟨by rfl, fun w' hSw => ?_⟩) (Below.refl wr.heap.size wr).drew ?_
          rotate_left
          · go_simp
            all_goals with_reducible rfl
          simp only [Act.put, List.setIfInBounds_toArray, List.set_cons_zero, List.set_cons_succ]
          refine ordz_take (v := ?_) (i := 5) (fuel := 5) (by simp; rfl) (by kernel_rfl) (by kernel_rfl) (by kernel_rfl) (by kernel_rfl) (Or.inl ⟨by rfl, fun w' hSw => ?_⟩) (Below.refl wr.heap.size wr).drew ?_
          rotate_left
          · go_simp
            all_goals with_reducible rfl
          simp only [Act.put, List.setIfInBounds_toArray, List.set_cons_zero, List.set_cons_succ]
          refine ordz_take (v := ?_) (i := 6) (fuel := 4) (by simp; rfl) (by kernel_rfl) (by kernel_rfl) (by kernel_rfl) (by kernel_rfl) (Or.inl ⟨by rfl, fun w' hSw => ?_⟩) (Below.refl wr.heap.size wr).drew ?_
          rotate_left
          · go_simp
            all_goals with_reducible rfl
          simp only [Act.put, List.setIfInBounds_toArray, List.set_cons_zero, List.set_cons_succ]
          refine ordz_take (v := ?_) (i := 7) (fuel := 3) (by simp; rfl) (by kernel_rfl) (by kernel_rfl) (by kernel_rfl) (by kernel_rfl) (Or.inl ⟨by rfl, fun w' hSw => ?_⟩) (Below.refl wr.heap.size wr).drew ?_
          rotate_left
          · have z1 : w'.cell? ⟨g1, o1 + e * 4, none⟩ = some (.int .i64 lv) := (hSw.cell (p := ⟨g1, o1 + e * 4, none⟩) hgW).trans HD0.out
            go_simp
            all_goals with_reducible rfl
          simp only [Act.put, List.setIfInBounds_toArray, List.set_cons_zero, List.set_cons_succ]
          refine ordz_call (f := 17) (args := #[.int .i64 (e : Int), .int .i64 lv]) (w1 := wr.drew) (i := 8) (fuel := 2) (by simp; rfl) (by kernel_rfl) (by rfl) ?_ ?_
          · go_simp
            all_goals with_reducible rfl
          (with_reducible refine (RO.out _).mono ?_)
          rintro e5 w5 ⟨rfl, hb⟩
          have HS5 := Lib.hid (show Below wr.heap.size wr w5 from (Below.refl wr.heap.size wr).drew.trans (hb.mono (Nat.le_refl _)))
          clear hb
          refine ⟨_, rfl, .inr HS5.out, ?_⟩
          simp only [Act.put, List.setIfInBounds_toArray, List.set_cons_zero, List.set_cons_succ]
          refine ordz_call (f := 10) (args := #[.agg #[.int .u64 (a : Int), .int .i64 u], .agg #[.int .u64 (m : Int), .int .i64 q]]) (w1 := w5) (i := 9) (fuel := 1) (by simp; rfl) (by kernel_rfl) (by rfl) ?_ ?_
          · go_simp
            all_goals with_reducible rfl
          (with_reducible refine (HJ.out _).mono ?_)
          rintro e6 w6 ⟨rfl, hb⟩
          have HS6 := Lib.hid (HS5.out.trans (hb.mono HS5.out.size))
          clear hb
          refine ⟨_, rfl, .inr HS6.out, ?_⟩
          simp only [Act.put, List.setIfInBounds_toArray, List.set_cons_zero, List.set_cons_succ]
          have HC6 := Lib.hid (HCr.out.below HS6.out HCr.out.lt)
          have c0 : w6.cell? ⟨gc, 0, none⟩ = some (.int .u64 (a : Int)) := (HC6.out.cell 0).trans rfl
          have c1 : w6.cell? ⟨gc, 1, none⟩ = some (.int .i64 u) := (HC6.out.cell 1).trans rfl
          have cl := HC6.out.lt
          have g0 := HC6.out.frozen 0
          have g1f := HC6.out.frozen 1
          obtain ⟨am, ham⟩ : ∃ am, a ||| m = am := ⟨_, rfl⟩
          rw [ham]
          have HAM := Lib.hid ham
          clear ham
          refine ordz_skip (w' := (w6.setCell ⟨gc, 0, none⟩ (.int .u64 (am : Int))).setCell ⟨gc, 1, none⟩ (.int .i64 t)) (i := 10) (fuel := 0) (by simp; rfl) (by kernel_rfl) (by rfl) (by rfl) ?_ (.inl rfl) ?_
          · go_simp
            all_goals with_reducible rfl
          refine ordz_done (by kernel_rfl) ?_ _
          obtain ⟨W7, hW7⟩ : ∃ V, (w6.setCell ⟨gc, 0, none⟩ (.int .u64 (am : Int))).setCell ⟨gc, 1, none⟩ (.int .i64 t) = V := ⟨_, rfl⟩
          have HC7 := Lib.hid (show Blk W7 gc 33 #[.int .u64 (am : Int), .int .i64 t] from by rw [← hW7]; have h := (HC6.out.set_ 0 (.int .u64 (am : Int))).set_ 1 (.int .i64 t); simpa using h)
          have HB7 := Lib.hid (show Below gc W3 W7 from by rw [← hW7]; exact ((HBB.out.trans (HS6.out.mono (Nat.le_of_lt HCr.out.lt))).setCell (p := ⟨gc, 0, none⟩) (Nat.le_refl _) _).setCell (p := ⟨gc, 1, none⟩) (Nat.le_refl _) _)
          have HN7 := Lib.hid (show NsA W7 (some ⟨gm, 0, none⟩) L from by rw [← hW7]; exact ((HNr.out.below HS6.out).set_ HC6.out (by decide) _).set_ (HC6.out.set_ 0 _) (by decide) _)
          rw [hW7]
          clear hW7 c0 c1 cl g0 g1f
          go_wp2
          go_roundw
          case rel => exact ⟨j + 1, by omega, by go_num, by rw [joinL_next HE.out, HA.out, HU.out, HMQ.out, show a ||| m = am from HAM.out, show max u q = t from HT.out]; exact HC7.out, HN7.out, HB7.out⟩
          case measure => simp [intOf]; omega
        · have hlt' : ¬ (j : Int) < (L.length : Int) := by omega
          obtain rfl : j = L.length := by omega
          obtain ⟨rfl, rfl⟩ : n = a ∧ v = u := by
            have h := HQ.out
            have h1 := HA.out
            have h2 := HU.out
            rw [List.take_length, h] at h1 h2
            exact ⟨h1, h2⟩
          go_wp2
          obtain ⟨W5, hW5⟩ : ∃ V, (wr.setCell ⟨gp + 1, 0, none⟩ (.int .u64 (n : Int))).setCell ⟨gp + 1, 1, none⟩ (.int .i64 v) = V := ⟨_, rfl⟩
          have hQ5 : Blk W5 (gp + 1) 33 #[.int .u64 (n : Int), .int .i64 v] := by rw [← hW5]; have h := (HLr.out.set_ 0 (.int .u64 (n : Int))).set_ 1 (.int .i64 v); simpa using h
          have hB5 : Below w.heap.size w W5 := by rw [← hW5]; exact (HBr.out.setCell (p := ⟨gp + 1, 0, none⟩) hgw _).setCell (p := ⟨gp + 1, 1, none⟩) hgw _
          rw [hW5]
          have q0 : W5.cell? ⟨gp + 1, 0, none⟩ = some (.int .u64 (n : Int)) := (hQ5.cell 0).trans rfl
          have q1 : W5.cell? ⟨gp + 1, 1, none⟩ = some (.int .i64 v) := (hQ5.cell 1).trans rfl
          exact bodyPost_ret (v := .agg #[.int .u64 (n : Int), .int .i64 v]) (by simp [results, Try.results6, go_sem, q0, q1]) rfl ⟨rfl, hB5⟩
    · have HAKm := Lib.hid (fun V => HAK.out V false (by rw [← Bool.decide_and, decide_eq_false k12]))
      obtain ⟨rfl, rfl⟩ : n = 0 ∧ v = 0 := by
        have h := HV.out
        unfold grpLab at h
        rw [if_neg (by rw [HNG.out]; rintro ⟨h1, h2, h3⟩; first | exact k12 ⟨h2, h3⟩ | cases h1)] at h
        injection h with h1 h2
        exact ⟨h1.symm, h2.symm⟩
      go_wp2_with fail
      (with_reducible refine (HAKm.out _).mono ?_)
      rintro e w3 ⟨rfl, rfl⟩
      go_wp2
      obtain ⟨W5, hW5⟩ : ∃ V, (w1.setCell ⟨gp + 1, 0, none⟩ (.int .u64 0)).setCell ⟨gp + 1, 1, none⟩ (.int .i64 0) = V := ⟨_, rfl⟩
      have hQ5 : Blk W5 (gp + 1) 33 #[.int .u64 0, .int .i64 0] := by rw [← hW5]; have h := (HL1.out.set_ 0 (.int .u64 0)).set_ 1 (.int .i64 0); simpa using h
      have hB5 : Below w.heap.size w W5 := by rw [← hW5]; exact (HB1.out.setCell (p := ⟨gp + 1, 0, none⟩) hgw _).setCell (p := ⟨gp + 1, 1, none⟩) hgw _
      rw [hW5]
      have q0 : W5.cell? ⟨gp + 1, 0, none⟩ = some (.int .u64 0) := (hQ5.cell 0).trans rfl
      have q1 : W5.cell? ⟨gp + 1, 1, none⟩ = some (.int .i64 0) := (hQ5.cell 1).trans rfl
      exact bodyPost_ret (v := .agg #[.int .u64 0, .int .i64 0]) (by simp [results, Try.results6, go_sem, q0, q1]) rfl ⟨rfl, hB5⟩
end Go.Proofs.Ytakofbkbbmpfeab

namespace Go.Proofs.Ytakofbkbbmpfeab
open Go.RowKit
theorem wpL_val {P : Program} {ops : Array Oper} {Q : Exit → Act → World → Prop} {a : Act} {w w' : World} {rest : List Oper} {o : Oper} {v : Value} (hg : o.guard = none) (h : (execOp a.eval o).run P w = .ok (.value v) w') (hn : wpList P ops Q rest (a.put o.dst v) w') : wpList P ops Q (o :: rest) a w :=
  wpList_plain hg fun K hK => by
    unfold Oper.wp
    rw [h]
    exact hK _ _ hn
theorem wpL_skp {P : Program} {ops : Array Oper} {Q : Exit → Act → World → Prop} {a : Act} {w w' : World} {rest : List Oper} {o : Oper} (hg : o.guard = none) (h : (execOp a.eval o).run P w = .ok .skip w') (hn : wpList P ops Q rest (a.put o.dst undef) w') : wpList P ops Q (o :: rest) a w :=
  wpList_plain hg fun K hK => by
    unfold Oper.wp
    rw [h]
    exact hK _ _ hn
theorem joinL_ge (β : Bool) (P : PolP) (L : List Nat) : ∀ (j i e : Nat), i < j → L[i]? = some e → j ≤ L.length → (∀ b, (entLab β P (e : Int)).1.testBit b = true → (joinL β P (L.take j)).1.testBit b = true) ∧ (entLab β P (e : Int)).2 ≤ (joinL β P (L.take j)).2
  | 0, i, e, h, _, _ => by omega
  | j + 1, i, e, h, he, hj => by
    obtain ⟨x, hx⟩ : ∃ x, L[j]? = some x := ⟨_, List.getElem?_eq_getElem (show j < L.length by omega)⟩
    rw [joinL_next hx]
    rcases Nat.lt_or_ge i j with hij | hij
    · obtain ⟨h1, h2⟩ := joinL_ge β P L j i e hij he (by omega)
      exact ⟨fun b hb => by rw [Nat.testBit_or, h1 b hb, Bool.true_or], by show _ ≤ max _ _; omega⟩
    · obtain rfl : i = j := by omega
      rw [he] at hx
      obtain rfl := Option.some.inj hx
      exact ⟨fun b hb => by rw [Nat.testBit_or, hb, Bool.or_true], by show _ ≤ max _ _; omega⟩
theorem below_trans {a b c : Nat} {v u t : Int} (h1 : belowB a v b u = true) (h2 : belowB b u c t = true) : belowB a v c t = true := by
  rw [belowB_iff] at h1 h2 ⊢
  exact ⟨sub_iff.2 fun i hi => sub_iff.1 h2.1 i (sub_iff.1 h1.1 i hi), Int.le_trans h1.2 h2.2⟩
theorem sees_mem {P : PolP} {L : List Nat} {k : Int} {gn m e : Nat} {gv q : Int} (hj : joinL true P L = (gn, gv)) (he : e ∈ L) (hm : entLab true P (e : Int) = (m, q)) (h : seesB true P k gn gv = true) : seesB true P k m q = true := by
  obtain ⟨i, hi⟩ := List.getElem?_of_mem he
  have hl := (List.getElem?_eq_some_iff.1 hi).1
  have hg := joinL_ge true P L L.length i e hl hi (Nat.le_refl _)
  rw [List.take_length, hj, hm] at hg
  unfold seesB at h ⊢
  simp only [Bool.and_eq_true, decide_eq_true_eq, Bool.true_and] at h ⊢
  exact ⟨h.1, h.2.1, below_trans (belowB_iff.2 ⟨sub_iff.2 hg.1, hg.2⟩) h.2.2⟩
theorem sees_at {P : PolP} {k : Nat} {x : WhoP} (hx : P.who[k]? = some x) (a : Nat) (u : Int) : seesB true P (k : Int) a u = belowB a u x.set x.lv := by
  have hk := (List.getElem?_eq_some_iff.1 hx).1
  unfold seesB whoAt
  rw [decide_eq_true (show (0 : Int) ≤ (k : Int) by omega), decide_eq_true (show (k : Int) < (P.who.length : Int) by omega), Int.toNat_natCast, hx]
  simp
def withH (P : PolP) (l : List WhoP) : PolP := { P with who := l }
def moreW (x : WhoP) (n : Nat) (v : Int) : WhoP := ⟨x.set ||| n, max x.lv v, x.ro⟩
theorem with_at {P : PolP} {k : Nat} {x : WhoP} (hx : P.who[k]? = some x) (y : WhoP) : (withH P (P.who.set k y)).who[k]? = some y := by
  have hk := (List.getElem?_eq_some_iff.1 hx).1
  show (P.who.set k y)[k]? = some y
  rw [List.getElem?_set_self hk]
theorem or_left (a b : Nat) : a &&& (a ||| b) = a := sub_iff.2 fun i hi => by rw [Nat.testBit_or, hi, Bool.true_or]
theorem or_right (a b : Nat) : b &&& (a ||| b) = b := sub_iff.2 fun i hi => by rw [Nat.testBit_or, hi, Bool.or_true]
theorem below_more (x : WhoP) (n : Nat) (v : Int) : belowB x.set x.lv (moreW x n v).set (moreW x n v).lv = true := belowB_iff.2 ⟨or_left _ _, by show _ ≤ max _ _; omega⟩
theorem below_add (x : WhoP) (n : Nat) (v : Int) : belowB n v (moreW x n v).set (moreW x n v).lv = true := belowB_iff.2 ⟨or_right _ _, by show _ ≤ max _ _; omega⟩
theorem below_meet (a b : Nat) (v u : Int) : belowB (a &&& b) (min v u) b u = true := belowB_iff.2 ⟨sub_iff.2 fun i hi => by rw [Nat.testBit_and, Bool.and_eq_true] at hi; exact hi.2, by omega⟩
theorem all_set {α : Type} {p : Nat → α → Prop} {l : List α} {k : Nat} {a : α} (h : AllI_ p l) (ha : p k a) : AllI_ p (l.set k a) := fun i x e => by
  rw [List.getElem?_set] at e
  split at e
  · next hik =>
    subst hik
    split at e
    · injection e with e
      subst e
      exact ha
    · cases e
  · exact h i x e
theorem right_withH {P : PolP} {k n : Nat} {v : Int} {x : WhoP} (h : RightPol P) (hx : P.who[k]? = some x) (hn : n < 256) (h0 : 0 ≤ v) (h3 : v ≤ 3) : RightPol (withH P (P.who.set k (moreW x n v))) := by
  obtain ⟨⟨he, hg, hw, hu, hr⟩, ae, ag, aw, ar⟩ := h
  refine ⟨⟨he, hg, by show 1 ≤ (P.who.set k _).length ∧ (P.who.set k _).length ≤ 8; rw [List.length_set]; exact hw, hu, hr⟩, ae, ag, all_set aw ?_, ar⟩
  obtain ⟨h1, h2⟩ := aw k x hx
  refine ⟨?_, h2⟩
  show rightB (x.set ||| n) (max x.lv v) = true
  unfold rightB at h1 ⊢
  simp only [Bool.and_eq_true, decide_eq_true_eq] at h1 ⊢
  exact ⟨⟨Nat.or_lt_two_pow (n := 8) h1.1.1 hn, by omega⟩, by omega⟩
theorem wd_withH {P : PolP} {k n : Nat} {v : Int} {x : WhoP} (h : PolWd P) (hx : P.who[k]? = some x) (hn : n < 256) : PolWd (withH P (P.who.set k (moreW x n v))) := by
  obtain ⟨hg, hw, hr, l1, l2, l3, l4, l5⟩ := h
  refine ⟨hg, fun y hy => ?_, hr, l1, l2, by show (P.who.set k _).length ≤ 1000000; rw [List.length_set]; exact l3, l4, l5⟩
  rcases List.mem_or_eq_of_mem_set hy with hy | rfl
  · exact hw y hy
  · obtain ⟨h1, h2⟩ := hw x (List.mem_of_getElem? hx)
    exact ⟨Nat.or_lt_two_pow (n := 64) h1 (Nat.lt_of_lt_of_le hn (by decide)), h2⟩
theorem rd_withH {w : World} {B : Nat} {s : Slp} {P : PolP} {l : List WhoP} (h : PolRd w B s P) {A : Option Addr} (c : Nat) (hr : RdR w B A l.length (l.flatMap whoV)) : PolRd w B { s with Ah := A, ch := c } (withH P l) := ⟨h.1, h.2.1, hr, h.2.2.2.1, h.2.2.2.2⟩
theorem flat_set : ∀ (l : List WhoP) (k : Nat) (x y : WhoP), l[k]? = some x → y.ro = x.ro → (l.set k y).flatMap whoV = ((l.flatMap whoV).set (k * 3) (.int .u64 (y.set : Int))).set (k * 3 + 1) (.int .i64 y.lv)
  | [], _, _, _, e, _ => by simp at e
  | a :: l, 0, x, y, e, hr => by
    simp at e
    subst e
    simp [whoV, hr]
  | a :: l, k + 1, x, y, e, hr => by
    rw [List.getElem?_cons_succ] at e
    rw [List.set_cons_succ, List.flatMap_cons, flat_set l k x y e hr, List.flatMap_cons, Nat.succ_mul]
    rfl
theorem set_sub {xs : List Value} {cs : Array Value} (i : Nat) (a : Value) (h : ∀ (j : Nat) u, xs[j]? = some u → cs[j]? = some u) : ∀ (j : Nat) u, (xs.set i a)[j]? = some u → (cs.setIfInBounds i a)[j]? = some u := fun j u hu => by
  rw [List.getElem?_set] at hu
  rw [Array.getElem?_setIfInBounds]
  split at hu
  · next e =>
    subst e
    split at hu
    · next hl =>
      have hc := h i xs[i] (List.getElem?_eq_getElem hl)
      have hs := (Array.getElem?_eq_some_iff.1 hc).1
      rw [if_pos rfl, if_pos hs]
      exact hu
    · cases hu
  · next e =>
    rw [if_neg e]
    exact h j u hu
theorem own_blk {w : World} {B n size c g o : Nat} {E : TypeId} {xs : List Value} (ho : 0 = o) (h : w.ownsRow B E size (.slice (some ⟨g, o, none⟩) n c) n xs) : ∃ cur : Array Value, Blk w g E cur ∧ B ≤ g ∧ ∀ (j : Nat) u, xs[j]? = some u → cur[j]? = some u := by
  subst ho
  rcases h.2 with ⟨e, _⟩ | ⟨g', cap, cur, e, hb, hh, _⟩
  · cases e
  · injection e with e1 e2 e3
    injection e1 with e1
    injection e1 with e1
    subst e1
    have hB : Blk w g E cur := hh
    refine ⟨cur, hB, hb, fun j u hu => ?_⟩
    have hc := h.cells (g := g) rfl j u hu
    rw [add_at, Nat.zero_add, hB.cell j] at hc
    exact hc
/-- A principal's label in a row of the call's own turns. -/
theorem rd_who_set {w : World} {B n c g o k : Nat} {l : List WhoP} {x : WhoP} (ho : 0 = o) (h : w.ownsRow B 41 3 (.slice (some ⟨g, o, none⟩) n c) n (l.flatMap whoV)) (hx : l[k]? = some x) (y : WhoP) (hr : y.ro = x.ro) :
    RdR ((w.setCell ⟨g, o + k * 3, none⟩ (.int .u64 (y.set : Int))).setCell ⟨g, o + k * 3 + 1, none⟩ (.int .i64 y.lv)) w.heap.size (some ⟨g, o, none⟩) n ((l.set k y).flatMap whoV) := by
  obtain ⟨cur, hB, hb, hc⟩ := own_blk ho h
  subst ho
  refine fun _ => ⟨g, 0, rfl, hB.lt, fun j u hu => ?_⟩
  have h2 := (hB.set_ (0 + k * 3) (.int .u64 (y.set : Int))).set_ (0 + k * 3 + 1) (.int .i64 y.lv)
  rw [flat_set l k x y hx hr] at hu
  rw [Nat.zero_add j, h2.cell j]
  rw [Nat.zero_add]
  exact set_sub _ _ (set_sub _ _ hc) j u hu
/-- What a walk reads of an own row of principals, and that it may be written. -/
theorem own_who {w : World} {B n c g o k : Nat} {l : List WhoP} {x : WhoP} (ho : 0 = o) (h : w.ownsRow B 41 3 (.slice (some ⟨g, o, none⟩) n c) n (l.flatMap whoV)) (hx : l[k]? = some x) :
    g < w.heap.size ∧ B ≤ g ∧ w.cell? ⟨g, o + k * 3, none⟩ = some (.int .u64 (x.set : Int)) ∧ w.cell? ⟨g, o + k * 3 + 1, none⟩ = some (.int .i64 x.lv) ∧ ∀ j, w.frozen? ⟨g, j, none⟩ = false := by
  obtain ⟨cur, hB, hb, hc⟩ := own_blk ho h
  subst ho
  refine ⟨hB.lt, hb, ?_, ?_, fun j => hB.frozen j⟩
  · rw [hB.cell, Nat.zero_add]
    exact hc (k * 3 + 0) _ (flat_get whoV 3 len_who l k 0 x hx (by decide))
  · rw [hB.cell, Nat.zero_add]
    exact hc (k * 3 + 1) _ (flat_get whoV 3 len_who l k 1 x hx (by decide))
theorem who_ones (l : List WhoP) : ∀ u ∈ l.flatMap whoV, u.oneCell' = true := fun u hu => by
  obtain ⟨r, _, h⟩ := List.mem_flatMap.1 hu
  simp [whoV] at h
  rcases h with rfl | rfl | rfl <;> rfl
end Go.Proofs.Ytakofbkbbmpfeab

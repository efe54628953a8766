/- rule.Group. -/
/- RuleSees, plainly: who sees what, of labels joined; a policy of other principals. -/
/- A policy with something turned: stores into its own rows; its words; what is read of it. -/
/- A policy as bent leaves it; rows that grow from their own first element. -/
/- pyxhand.Label: whatever is drawn, some label. -/
import Derived.Test.YtakofbkbbmpfeaaRulF
import Derived.Test.YtakofbkbbmpfeaaRulL
namespace Go.Proofs.Ytakofbkbbmpfeaa
open Go.RowKit
/-- Under way: the Join of the first j members' labels lies in block gc. -/
def GrpRel2 (W : World) (A : Option Addr) (gc : Nat) (P : PolP) (L : List Nat) (i : Value) (wr : World) : Prop :=
  ∃ j : Nat, j ≤ L.length ∧ i = .int .i64 j ∧ Blk wr gc 33 #[.int .u64 ((joinL true P (L.take j)).1 : Int), .int .i64 (joinL true P (L.take j)).2] ∧ NsA wr A L ∧ Below gc W wr
theorem joinL_next {β : Bool} {P : PolP} {L : List Nat} {j e : Nat} (h : L[j]? = some e) : joinL β P (L.take (j + 1)) = ((joinL β P (L.take j)).1 ||| (entLab β P (e : Int)).1, max (joinL β P (L.take j)).2 (entLab β P (e : Int)).2) := by rw [take_next h, joinL_snoc]
set_option maxRecDepth 100000 in
set_option maxHeartbeats 3200000 in
theorem ruGroup_c (s : Slp) (P : PolP) (w : World) (ne ng nh nu nr : Nat) (h : PolRd w w.heap.size s P) (hwd : PolWd P) (hne : P.ents.length = ne) (hng : P.grp.length = ng) (hnh : P.who.length = nh) (hnu : P.up.length = nu) (hnr : P.rules.length = nr) (β : Bool) (hβ : β = true ↔ RightPol P) (k : Int) (n : Nat) (v : Int) (hv : grpLab β P k = (n, v)) :
    Calls Try.prog 14 #[.agg #[.slice s.Ae ne s.ce, .slice s.Ag ng s.cg, .slice s.Ah nh s.ch, .slice s.Au nu s.cu, .slice s.Ar nr s.cr], .int .i64 k] w (RetL w n v) := by
  obtain ⟨gp, hgp⟩ : ∃ g, w.heap.size = g := ⟨_, rfl⟩
  obtain ⟨W, hW⟩ : ∃ V, (w.alloc (.cells #[.slice s.Ae ne s.ce, .slice s.Ag ng s.cg, .slice s.Ah nh s.ch, .slice s.Au nu s.cu, .slice s.Ar nr s.cr] 28)).alloc (.cells #[.int .u64 0, .int .i64 0] 33) = V := ⟨_, rfl⟩
  have HBW := Lib.hid (show Below w.heap.size w W from by rw [← hW]; exact bel_alloc (bel_alloc (Below.refl _ _) _) _)
  have HPB := Lib.hid (show PolBl W gp s ne ng nh nu nr from by rw [← hW, ← hgp]; exact (Blk.new _ _ _).alloc _)
  have HLB := Lib.hid (show Blk W (gp + 1) 33 #[.int .u64 0, .int .i64 0] from by rw [← hW, ← hgp]; have h := Blk.new (w.alloc (.cells #[.slice s.Ae ne s.ce, .slice s.Ag ng s.cg, .slice s.Ah nh s.ch, .slice s.Au nu s.cu, .slice s.Ar nr s.cr] 28)) 33 #[.int .u64 0, .int .i64 0]; simpa using h)
  have HRD := Lib.hid (h.below HBW.out)
  have HRP := Lib.hid (ruRight_c s P W ne ng nh nu nr ((h.below HBW.out).more HBW.out.size) hwd hne hng hnh hnu hnr β hβ)
  have HAK := Lib.hid (fun (V : World) (b : Bool) (e : (decide (0 ≤ k) && decide (k < (ng : Int))) = b) => among_c k (ng : Int) b V e)
  have HV := Lib.hid hv
  have HWG := Lib.hid hwd.1
  have hle := hwd.2.2.2.1
  have hlg := hwd.2.2.2.2.1
  rw [hne] at hle
  rw [hng] at hlg
  have HNE := Lib.hid hne
  have HNG := Lib.hid hng
  have HBT := Lib.hid hβ
  obtain ⟨lp, x0, x1, x2, x3, x4⟩ := HPB.out.cells
  have hgs : gp + 1 < W.heap.size := HLB.out.lt
  have HGP := Lib.hid hgp
  clear h hwd hng hnh hnu hnr hβ hv hne
  go_enter Try.func14, Try.ntmps14
  go_wp2_with fail
  (with_reducible refine HRP.out.mono ?_)
  rintro e w1 ⟨rfl, hb⟩
  have HB1 := Lib.hid (HBW.out.trans (hb.mono HBW.out.size))
  have HP1 := Lib.hid (show PolBl w1 gp s ne ng nh nu nr from Blk.below HPB.out hb (Blk.lt HPB.out))
  have HL1 := Lib.hid (HLB.out.below hb HLB.out.lt)
  have HR1 := Lib.hid (HRD.out.below (hb.mono HBW.out.size))
  clear hb HPB HLB HRD HRP hW hgp lp x0 x1 x2 x3 x4
  obtain ⟨lp, x0, x1, x2, x3, x4⟩ := HP1.out.cells
  have y0 : w1.cell? ⟨gp + 1, 0, none⟩ = some (.int .u64 0) := (HL1.out.cell 0).trans rfl
  have y1 : w1.cell? ⟨gp + 1, 1, none⟩ = some (.int .i64 0) := (HL1.out.cell 1).trans rfl
  have yl := HL1.out.lt
  have f0 := HL1.out.frozen 0
  have f1 := HL1.out.frozen 1
  have hgw : w.heap.size ≤ gp + 1 := by have := HGP.out; omega
  cases β
  · have k12 : True := trivial
    obtain ⟨rfl, rfl⟩ : n = 0 ∧ v = 0 := by
      have h := HV.out
      unfold grpLab at h
      rw [if_neg (by rw [HNG.out]; rintro ⟨h1, h2, h3⟩; first | exact k12 ⟨h2, h3⟩ | cases h1)] at h
      injection h with h1 h2
      exact ⟨h1.symm, h2.symm⟩
    go_wp2
    obtain ⟨W5, hW5⟩ : ∃ V, (w1.setCell ⟨gp + 1, 0, none⟩ (.int .u64 0)).setCell ⟨gp + 1, 1, none⟩ (.int .i64 0) = V := ⟨_, rfl⟩
    have hQ5 : Blk W5 (gp + 1) 33 #[.int .u64 0, .int .i64 0] := by rw [← hW5]; have h := (HL1.out.set_ 0 (.int .u64 0)).set_ 1 (.int .i64 0); simpa using h
    have hB5 : Below w.heap.size w W5 := by rw [← hW5]; exact (HB1.out.setCell (p := ⟨gp + 1, 0, none⟩) hgw _).setCell (p := ⟨gp + 1, 1, none⟩) hgw _
    rw [hW5]
    have q0 : W5.cell? ⟨gp + 1, 0, none⟩ = some (.int .u64 0) := (hQ5.cell 0).trans rfl
    have q1 : W5.cell? ⟨gp + 1, 1, none⟩ = some (.int .i64 0) := (hQ5.cell 1).trans rfl
    exact bodyPost_ret (v := .agg #[.int .u64 0, .int .i64 0]) (by simp [results, Try.results14, go_sem, q0, q1]) rfl ⟨rfl, hB5⟩
  · by_cases k12 : 0 ≤ k ∧ k < (ng : Int)
    · have HAKm := Lib.hid (fun V => HAK.out V true (by rw [decide_eq_true k12.1, decide_eq_true k12.2]; rfl))
      obtain ⟨k1, k2⟩ := k12
      obtain ⟨i, rfl⟩ : ∃ i : Nat, k = (i : Int) := ⟨k.toNat, by omega⟩
      obtain ⟨G, hG⟩ := get_at (l := P.grp) (k := i) (by rw [HNG.out]; omega)
      have hRP := HBT.out.1 (by first | rfl | trivial)
      have he8 := hRP.1.1.2
      have hGn := (hRP.2.2.1 i G hG).2
      rw [HNE.out] at he8 hGn
      have HLE := Lib.hid hRP.2.1
      have hQ : joinL true P (memL G) = (n, v) := by
        have h := HV.out
        unfold grpLab at h
        rw [if_pos ⟨rfl, k1, by rw [HNG.out]; exact k2⟩, Int.toNat_natCast, hG, HNE.out] at h
        rw [joinL_all hGn he8]
        exact h
      have HQ := Lib.hid hQ
      have HGN := Lib.hid hGn
      have hGw := HWG.out _ (List.mem_of_getElem? hG)
      obtain ⟨g, o, hA, hg, hc0⟩ := rd_u HR1.out.2.1 (by rw [HNG.out]; omega) hG
      have hg1 : g < w1.heap.size := by have := HB1.out.size; omega
      have HMM := Lib.hid (fun V : World => members_c G (G : Int) 0 V rfl hGw)
      obtain ⟨gc, hgc⟩ : ∃ g, w1.heap.size = g := ⟨_, rfl⟩
      obtain ⟨W2, hW2⟩ : ∃ V, w1.alloc (.cells #[.int .u64 0, .int .i64 0] 33) = V := ⟨_, rfl⟩
      have HC2 := Lib.hid (show Blk W2 gc 33 #[.int .u64 0, .int .i64 0] from by rw [← hW2, ← hgc]; exact Blk.new _ _ _)
      have HS2 := Lib.hid (show Below w1.heap.size w1 W2 from by rw [← hW2]; exact bel_alloc (Below.refl _ _) _)
      have hgpc : gp + 1 < gc := by rw [← hgc]; exact HL1.out.lt
      have HGC := Lib.hid hgc
      have HP2 := Lib.hid (show PolBl W2 gp s ne ng nh nu nr from Blk.below HP1.out HS2.out (Blk.lt HP1.out))
      have HL2 := Lib.hid (HL1.out.below HS2.out HL1.out.lt)
      have HB2 := Lib.hid (HB1.out.trans (HS2.out.mono HB1.out.size))
      have HR2 := Lib.hid (HR1.out.below (HS2.out.mono HB1.out.size))
      obtain ⟨vp, v0, v1, v2, v3, v4⟩ := HP2.out.cells
      rw [hA] at v1
      have hc2 : W2.cell? ⟨g, o + i, none⟩ = some (.int .u64 (G : Int)) := (HS2.out.cell (p := ⟨g, o + i, none⟩) hg1).trans hc0
      clear hQ hG HV hA hRP hGn
      go_wp2_with fail
      (with_reducible refine (HAKm.out _).mono ?_)
      rintro e w3 ⟨rfl, rfl⟩
      go_wp2_with fail
      (with_reducible refine (HMM.out _).mono ?_)
      rintro e W3 ⟨A, c, rfl, hN, hb⟩
      obtain ⟨L, hL⟩ : ∃ L, memL G = L := ⟨_, rfl⟩
      have HLL := Lib.hid hL
      rw [hL] at hN HQ
      have hL8 : L.length ≤ 8 := by rw [← hL]; exact memL_le G
      rw [hL]
      have HN3 := Lib.hid hN
      have HC3 := Lib.hid (HC2.out.below hb HC2.out.lt)
      have HP3 := Lib.hid (show PolBl W3 gp s ne ng nh nu nr from Blk.below HP2.out hb (Blk.lt HP2.out))
      have HL3 := Lib.hid (HL2.out.below hb HL2.out.lt)
      have HB3 := Lib.hid (HB2.out.trans (hb.mono HB2.out.size))
      have HR3 := Lib.hid (HR2.out.below (hb.mono HB2.out.size))
      clear hb hN hL hW2 hgc lp x0 x1 x2 x3 x4 y0 y1 yl f0 f1 vp v0 v1 v2 v3 v4 hc0 hc2
      go_wp2
      go_loopw [28] (fun i wr => GrpRel2 W3 A gc P L i wr) (fun i _ => L.length - (intOf i).toNat)
      case atStart => exact ⟨0, by omega, rfl, HC3.out, HN3.out, Below.refl _ _⟩
      case round =>
        obtain ⟨j, hj, rfl, hC, hN, hb⟩ := hrel
        have HCr := Lib.hid hC
        have HNr := Lib.hid hN
        have hgc3 : gc ≤ W3.heap.size := by have := HC3.out.lt; omega
        have HPr := Lib.hid (show PolBl wr gp s ne ng nh nu nr from Blk.below HP3.out hb (by omega))
        have HLr := Lib.hid (HL3.out.below hb (by omega))
        have HRr := Lib.hid (HR3.out.below (hb.mono (by have := HGP.out; omega)))
        have HBr := Lib.hid (HB3.out.trans (hb.mono (by have := HGP.out; omega)))
        have HBB := Lib.hid hb
        clear hC hN hb
        obtain ⟨lp, x0, x1, x2, x3, x4⟩ := HPr.out.cells
        obtain ⟨a, ha⟩ : ∃ a, (joinL true P (L.take j)).1 = a := ⟨_, rfl⟩
        obtain ⟨u, hu⟩ : ∃ u, (joinL true P (L.take j)).2 = u := ⟨_, rfl⟩
        have hal := joinL_lt true P (L.take j)
        rw [ha] at hal
        rw [ha, hu] at HCr
        have HA := Lib.hid ha
        have HU := Lib.hid hu
        clear ha hu
        have y0 : wr.cell? ⟨gp + 1, 0, none⟩ = some (.int .u64 0) := (HLr.out.cell 0).trans rfl
        have y1 : wr.cell? ⟨gp + 1, 1, none⟩ = some (.int .i64 0) := (HLr.out.cell 1).trans rfl
        have yl := HLr.out.lt
        have f0 := HLr.out.frozen 0
        have f1 := HLr.out.frozen 1
        have c0 : wr.cell? ⟨gc, 0, none⟩ = some (.int .u64 (a : Int)) := (HCr.out.cell 0).trans rfl
        have c1 : wr.cell? ⟨gc, 1, none⟩ = some (.int .i64 u) := (HCr.out.cell 1).trans rfl
        have cl := HCr.out.lt
        by_cases hlt : j < L.length
        · have hlt' : (j : Int) < (L.length : Int) := by omega
          obtain ⟨e, he⟩ := get_at hlt
          obtain ⟨gm, rfl, hgm, hcm⟩ := HNr.out.lt j hlt
          have hLj : L[j] = e := (List.getElem?_eq_some_iff.1 he).2
          rw [hLj] at hcm
          have hmem : e ∈ memL G := by rw [HLL.out]; exact List.mem_of_getElem? he
          have he7 := memL_lt hmem
          have hen : e < ne := by
            rcases Nat.lt_or_ge e ne with h | h
            · exact h
            · have hb := (memL_mem.1 hmem).2
              rw [Nat.testBit_lt_two_pow (Nat.lt_of_lt_of_le HGN.out (Nat.pow_le_pow_right (by decide) h))] at hb
              cases hb
          have hen' : (e : Int) < (ne : Int) := by omega
          obtain ⟨x, hx⟩ := get_at (l := P.ents) (k := e) (by rw [HNE.out]; exact hen)
          obtain ⟨g1, o1, hA1, hg1, d0, _⟩ := rd_ent HRr.out.1 (by rw [HNE.out]; omega) hx
          obtain ⟨lv, sc, pa, sh⟩ := x
          dsimp only at d0
          obtain ⟨m, q, hmq⟩ : ∃ m q, entLab true P (e : Int) = (m, q) := ⟨_, _, rfl⟩
          have hml := entLab_lt true P (e : Int)
          rw [hmq] at hml
          dsimp only at hml
          obtain ⟨hX, hY⟩ : ofSet (e : Int) = m ∧ min (max lv 0) 3 = q := by
            have h := hmq
            unfold entLab at h
            rw [if_pos ⟨rfl, by omega, by rw [HNE.out]; exact hen'⟩, Int.toNat_natCast, hx] at h
            injection h with h1 h2
            exact ⟨h1, h2⟩
          have RO := Lib.hid (fun V : World => by have h := labOf_c (e : Int) lv V; rw [hX, hY] at h; exact h)
          have HMQ := Lib.hid hmq
          have HE := Lib.hid he
          have HA1 := Lib.hid hA1
          have hgW : g1 < wr.heap.size := by have := HBr.out.size; omega
          have HD0 := Lib.hid d0
          obtain ⟨t, ht⟩ : ∃ t, max u q = t := ⟨_, rfl⟩
          have HJ := Lib.hid (fun V : World => by have h := join_c a m (a : Int) (m : Int) u q V rfl rfl (by omega) (by omega); rw [ht] at h; exact h)
          have HT := Lib.hid ht
          have he0 : (0 : Int) ≤ (e : Int) := by omega
          clear hmq ht hX hY hA1 d0 he hmem hLj hx
          go_wp2_with fail
          clear lp x0 x1 x2 x3 x4 y0 y1 yl f0 f1 c0 c1 cl hcm
          refine wp_region_ordz (S := fun V => Below wr.heap.size wr V) (z := 10) (by kernel_rfl) ?_
          refine ordz_take (v := ?_) (i := 0) (fuel := 10) (by simp; rfl) (by kernel_rfl) (by kernel_rfl) (by kernel_rfl) (by kernel_rfl) (Or.inl ⟨by rfl, fun w' hSw => ?_⟩) (Below.refl wr.heap.size wr).drew ?_
          rotate_left
          · have z0 : w'.cell? ⟨gc, 0, none⟩ = some (.int .u64 (a : Int)) := ((HCr.out.below hSw HCr.out.lt).cell 0).trans rfl
            have z1 : w'.cell? ⟨gc, 1, none⟩ = some (.int .i64 u) := ((HCr.out.below hSw HCr.out.lt).cell 1).trans rfl
            have zl := (HCr.out.below hSw HCr.out.lt).lt
            go_simp
            all_goals with_reducible rfl
          simp only [Act.put, List.setIfInBounds_toArray, List.set_cons_zero, List.set_cons_succ]
          refine ordz_take (v := ?_) (i := 1) (fuel := 9) (by simp; rfl) (by kernel_rfl) (by kernel_rfl) (by kernel_rfl) (by kernel_rfl) (Or.inl ⟨by rfl, fun w' hSw => ?_⟩) (Below.refl wr.heap.size wr).drew ?_
          rotate_left
          · go_simp
            all_goals with_reducible rfl
          simp only [Act.put, List.setIfInBounds_toArray, List.set_cons_zero, List.set_cons_succ]
          refine ordz_take (v := ?_) (i := 2) (fuel := 8) (by simp; rfl) (by kernel_rfl) (by kernel_rfl) (by kernel_rfl) (by kernel_rfl) (Or.inl ⟨by rfl, fun w' hSw => ?_⟩) (Below.refl wr.heap.size wr).drew ?_
          rotate_left
          · obtain ⟨lp, x0, x1, x2, x3, x4⟩ := PolBl.cells (Blk.below HPr.out hSw (Blk.lt HPr.out))
            go_simp
            all_goals with_reducible rfl
          simp only [Act.put, List.setIfInBounds_toArray, List.set_cons_zero, List.set_cons_succ]
          refine ordz_take (v := ?_) (i := 3) (fuel := 7) (by simp; rfl) (by kernel_rfl) (by kernel_rfl) (by kernel_rfl) (by kernel_rfl) (Or.inl ⟨by rfl, fun w' hSw => ?_⟩) (Below.refl wr.heap.size wr).drew ?_
          rotate_left
          · obtain ⟨lp, x0, x1, x2, x3, x4⟩ := PolBl.cells (Blk.below HPr.out hSw (Blk.lt HPr.out))
            rw [HA1.out] at x0
            go_simp
            all_goals with_reducible rfl
          simp only [Act.put, List.setIfInBounds_toArray, List.set_cons_zero, List.set_cons_succ]
          refine ordz_take (v := ?_) (i := 4) (fuel := 6) (by simp; rfl) (by kernel_rfl) (by kernel_rfl) (by kernel_rfl) (by kernel_rfl) (Or.inl ⟨by rfl, fun w' hSw => ?_⟩) (Below.refl wr.heap.size wr).drew ?_
          rotate_left
          · go_simp
            all_goals with_reducible rfl
          simp only [Act.put, List.setIfInBounds_toArray, List.set_cons_zero, List.set_cons_succ]
          refine ordz_take (v := ?_) (i := 5) (fuel := 5) (by simp; rfl) (by kernel_rfl) (by kernel_rfl) (by kernel_rfl) (by kernel_rfl) (Or.inl ⟨by rfl, fun w' hSw => ?_⟩) (Below.refl wr.heap.size wr).drew ?_
          rotate_left
          · go_simp
            all_goals with_reducible rfl
          simp only [Act.put, List.setIfInBounds_toArray, List.set_cons_zero, List.set_cons_succ]
          refine ordz_take (v := ?_) (i := 6) (fuel := 4) (by simp; rfl) (by kernel_rfl) (by kernel_rfl) (by kernel_rfl) (by kernel_rfl) (Or.inl ⟨by rfl, fun w' hSw => ?_⟩) (Below.refl wr.heap.size wr).drew ?_
          rotate_left
          · go_simp
            all_goals with_reducible rfl
          simp only [Act.put, List.setIfInBounds_toArray, List.set_cons_zero, List.set_cons_succ]
          refine ordz_take (v := ?_) (i := 7) (fuel := 3) (by simp; rfl) (by kernel_rfl) (by kernel_rfl) (by kernel_rfl) (by kernel_rfl) (Or.inl ⟨by rfl, fun w' hSw => ?_⟩) (Below.refl wr.heap.size wr).drew ?_
          rotate_left
          · have z1 : w'.cell? ⟨g1, o1 + e * 4, none⟩ = some (.int .i64 lv) := (hSw.cell (p := ⟨g1, o1 + e * 4, none⟩) hgW).trans HD0.out
            go_simp
            all_goals with_reducible rfl
          simp only [Act.put, List.setIfInBounds_toArray, List.set_cons_zero, List.set_cons_succ]
          refine ordz_call (f := 34) (args := #[.int .i64 (e : Int), .int .i64 lv]) (w1 := wr.drew) (i := 8) (fuel := 2) (by simp; rfl) (by kernel_rfl) (by rfl) ?_ ?_
          · go_simp
            all_goals with_reducible rfl
          (with_reducible refine (RO.out _).mono ?_)
          rintro e5 w5 ⟨rfl, hb⟩
          have HS5 := Lib.hid (show Below wr.heap.size wr w5 from (Below.refl wr.heap.size wr).drew.trans (hb.mono (Nat.le_refl _)))
          clear hb
          refine ⟨_, rfl, .inr HS5.out, ?_⟩
          simp only [Act.put, List.setIfInBounds_toArray, List.set_cons_zero, List.set_cons_succ]
          refine ordz_call (f := 37) (args := #[.agg #[.int .u64 (a : Int), .int .i64 u], .agg #[.int .u64 (m : Int), .int .i64 q]]) (w1 := w5) (i := 9) (fuel := 1) (by simp; rfl) (by kernel_rfl) (by rfl) ?_ ?_
          · go_simp
            all_goals with_reducible rfl
          (with_reducible refine (HJ.out _).mono ?_)
          rintro e6 w6 ⟨rfl, hb⟩
          have HS6 := Lib.hid (HS5.out.trans (hb.mono HS5.out.size))
          clear hb
          refine ⟨_, rfl, .inr HS6.out, ?_⟩
          simp only [Act.put, List.setIfInBounds_toArray, List.set_cons_zero, List.set_cons_succ]
          have HC6 := Lib.hid (HCr.out.below HS6.out HCr.out.lt)
          have c0 : w6.cell? ⟨gc, 0, none⟩ = some (.int .u64 (a : Int)) := (HC6.out.cell 0).trans rfl
          have c1 : w6.cell? ⟨gc, 1, none⟩ = some (.int .i64 u) := (HC6.out.cell 1).trans rfl
          have cl := HC6.out.lt
          have g0 := HC6.out.frozen 0
          have g1f := HC6.out.frozen 1
          obtain ⟨am, ham⟩ : ∃ am, a ||| m = am := ⟨_, rfl⟩
          rw [ham]
          have HAM := Lib.hid ham
          clear ham
          refine ordz_skip (w' := (w6.setCell ⟨gc, 0, none⟩ (.int .u64 (am : Int))).setCell ⟨gc, 1, none⟩ (.int .i64 t)) (i := 10) (fuel := 0) (by simp; rfl) (by kernel_rfl) (by rfl) (by rfl) ?_ (.inl rfl) ?_
          · go_simp
            all_goals with_reducible rfl
          refine ordz_done (by kernel_rfl) ?_ _
          obtain ⟨W7, hW7⟩ : ∃ V, (w6.setCell ⟨gc, 0, none⟩ (.int .u64 (am : Int))).setCell ⟨gc, 1, none⟩ (.int .i64 t) = V := ⟨_, rfl⟩
          have HC7 := Lib.hid (show Blk W7 gc 33 #[.int .u64 (am : Int), .int .i64 t] from by rw [← hW7]; have h := (HC6.out.set_ 0 (.int .u64 (am : Int))).set_ 1 (.int .i64 t); simpa using h)
          have HB7 := Lib.hid (show Below gc W3 W7 from by rw [← hW7]; exact ((HBB.out.trans (HS6.out.mono (Nat.le_of_lt HCr.out.lt))).setCell (p := ⟨gc, 0, none⟩) (Nat.le_refl _) _).setCell (p := ⟨gc, 1, none⟩) (Nat.le_refl _) _)
          have HN7 := Lib.hid (show NsA W7 (some ⟨gm, 0, none⟩) L from by rw [← hW7]; exact ((HNr.out.below HS6.out).set_ HC6.out (by decide) _).set_ (HC6.out.set_ 0 _) (by decide) _)
          rw [hW7]
          clear hW7 c0 c1 cl g0 g1f
          go_wp2
          go_roundw
          case rel => exact ⟨j + 1, by omega, by go_num, by rw [joinL_next HE.out, HA.out, HU.out, HMQ.out, show a ||| m = am from HAM.out, show max u q = t from HT.out]; exact HC7.out, HN7.out, HB7.out⟩
          case measure => simp [intOf]; omega
        · have hlt' : ¬ (j : Int) < (L.length : Int) := by omega
          obtain rfl : j = L.length := by omega
          obtain ⟨rfl, rfl⟩ : n = a ∧ v = u := by
            have h := HQ.out
            have h1 := HA.out
            have h2 := HU.out
            rw [List.take_length, h] at h1 h2
            exact ⟨h1, h2⟩
          go_wp2
          obtain ⟨W5, hW5⟩ : ∃ V, (wr.setCell ⟨gp + 1, 0, none⟩ (.int .u64 (n : Int))).setCell ⟨gp + 1, 1, none⟩ (.int .i64 v) = V := ⟨_, rfl⟩
          have hQ5 : Blk W5 (gp + 1) 33 #[.int .u64 (n : Int), .int .i64 v] := by rw [← hW5]; have h := (HLr.out.set_ 0 (.int .u64 (n : Int))).set_ 1 (.int .i64 v); simpa using h
          have hB5 : Below w.heap.size w W5 := by rw [← hW5]; exact (HBr.out.setCell (p := ⟨gp + 1, 0, none⟩) hgw _).setCell (p := ⟨gp + 1, 1, none⟩) hgw _
          rw [hW5]
          have q0 : W5.cell? ⟨gp + 1, 0, none⟩ = some (.int .u64 (n : Int)) := (hQ5.cell 0).trans rfl
          have q1 : W5.cell? ⟨gp + 1, 1, none⟩ = some (.int .i64 v) := (hQ5.cell 1).trans rfl
          exact bodyPost_ret (v := .agg #[.int .u64 (n : Int), .int .i64 v]) (by simp [results, Try.results14, go_sem, q0, q1]) rfl ⟨rfl, hB5⟩
    · have HAKm := Lib.hid (fun V => HAK.out V false (by rw [← Bool.decide_and, decide_eq_false k12]))
      obtain ⟨rfl, rfl⟩ : n = 0 ∧ v = 0 := by
        have h := HV.out
        unfold grpLab at h
        rw [if_neg (by rw [HNG.out]; rintro ⟨h1, h2, h3⟩; first | exact k12 ⟨h2, h3⟩ | cases h1)] at h
        injection h with h1 h2
        exact ⟨h1.symm, h2.symm⟩
      go_wp2_with fail
      (with_reducible refine (HAKm.out _).mono ?_)
      rintro e w3 ⟨rfl, rfl⟩
      go_wp2
      obtain ⟨W5, hW5⟩ : ∃ V, (w1.setCell ⟨gp + 1, 0, none⟩ (.int .u64 0)).setCell ⟨gp + 1, 1, none⟩ (.int .i64 0) = V := ⟨_, rfl⟩
      have hQ5 : Blk W5 (gp + 1) 33 #[.int .u64 0, .int .i64 0] := by rw [← hW5]; have h := (HL1.out.set_ 0 (.int .u64 0)).set_ 1 (.int .i64 0); simpa using h
      have hB5 : Below w.heap.size w W5 := by rw [← hW5]; exact (HB1.out.setCell (p := ⟨gp + 1, 0, none⟩) hgw _).setCell (p := ⟨gp + 1, 1, none⟩) hgw _
      rw [hW5]
      have q0 : W5.cell? ⟨gp + 1, 0, none⟩ = some (.int .u64 0) := (hQ5.cell 0).trans rfl
      have q1 : W5.cell? ⟨gp + 1, 1, none⟩ = some (.int .i64 0) := (hQ5.cell 1).trans rfl
      exact bodyPost_ret (v := .agg #[.int .u64 0, .int .i64 0]) (by simp [results, Try.results14, go_sem, q0, q1]) rfl ⟨rfl, hB5⟩
end Go.Proofs.Ytakofbkbbmpfeaa

namespace Go.Proofs.Ytakofbkbbmpfeaa
open Go.RowKit
theorem wpL_val {P : Program} {ops : Array Oper} {Q : Exit → Act → World → Prop} {a : Act} {w w' : World} {rest : List Oper} {o : Oper} {v : Value} (hg : o.guard = none) (h : (execOp a.eval o).run P w = .ok (.value v) w') (hn : wpList P ops Q rest (a.put o.dst v) w') : wpList P ops Q (o :: rest) a w :=
  wpList_plain hg fun K hK => by
    unfold Oper.wp
    rw [h]
    exact hK _ _ hn
theorem wpL_skp {P : Program} {ops : Array Oper} {Q : Exit → Act → World → Prop} {a : Act} {w w' : World} {rest : List Oper} {o : Oper} (hg : o.guard = none) (h : (execOp a.eval o).run P w = .ok .skip w') (hn : wpList P ops Q rest (a.put o.dst undef) w') : wpList P ops Q (o :: rest) a w :=
  wpList_plain hg fun K hK => by
    unfold Oper.wp
    rw [h]
    exact hK _ _ hn
theorem joinL_ge (β : Bool) (P : PolP) (L : List Nat) : ∀ (j i e : Nat), i < j → L[i]? = some e → j ≤ L.length → (∀ b, (entLab β P (e : Int)).1.testBit b = true → (joinL β P (L.take j)).1.testBit b = true) ∧ (entLab β P (e : Int)).2 ≤ (joinL β P (L.take j)).2
  | 0, i, e, h, _, _ => by omega
  | j + 1, i, e, h, he, hj => by
    obtain ⟨x, hx⟩ : ∃ x, L[j]? = some x := ⟨_, List.getElem?_eq_getElem (show j < L.length by omega)⟩
    rw [joinL_next hx]
    rcases Nat.lt_or_ge i j with hij | hij
    · obtain ⟨h1, h2⟩ := joinL_ge β P L j i e hij he (by omega)
      exact ⟨fun b hb => by rw [Nat.testBit_or, h1 b hb, Bool.true_or], by show _ ≤ max _ _; omega⟩
    · obtain rfl : i = j := by omega
      rw [he] at hx
      obtain rfl := Option.some.inj hx
      exact ⟨fun b hb => by rw [Nat.testBit_or, hb, Bool.or_true], by show _ ≤ max _ _; omega⟩
theorem below_trans {a b c : Nat} {v u t : Int} (h1 : belowB a v b u = true) (h2 : belowB b u c t = true) : belowB a v c t = true := by
  rw [belowB_iff] at h1 h2 ⊢
  exact ⟨sub_iff.2 fun i hi => sub_iff.1 h2.1 i (sub_iff.1 h1.1 i hi), Int.le_trans h1.2 h2.2⟩
theorem sees_mem {P : PolP} {L : List Nat} {k : Int} {gn m e : Nat} {gv q : Int} (hj : joinL true P L = (gn, gv)) (he : e ∈ L) (hm : entLab true P (e : Int) = (m, q)) (h : seesB true P k gn gv = true) : seesB true P k m q = true := by
  obtain ⟨i, hi⟩ := List.getElem?_of_mem he
  have hl := (List.getElem?_eq_some_iff.1 hi).1
  have hg := joinL_ge true P L L.length i e hl hi (Nat.le_refl _)
  rw [List.take_length, hj, hm] at hg
  unfold seesB at h ⊢
  simp only [Bool.and_eq_true, decide_eq_true_eq, Bool.true_and] at h ⊢
  exact ⟨h.1, h.2.1, below_trans (belowB_iff.2 ⟨sub_iff.2 hg.1, hg.2⟩) h.2.2⟩
theorem sees_at {P : PolP} {k : Nat} {x : WhoP} (hx : P.who[k]? = some x) (a : Nat) (u : Int) : seesB true P (k : Int) a u = belowB a u x.set x.lv := by
  have hk := (List.getElem?_eq_some_iff.1 hx).1
  unfold seesB whoAt
  rw [decide_eq_true (show (0 : Int) ≤ (k : Int) by omega), decide_eq_true (show (k : Int) < (P.who.length : Int) by omega), Int.toNat_natCast, hx]
  simp
def withH (P : PolP) (l : List WhoP) : PolP := { P with who := l }
def moreW (x : WhoP) (n : Nat) (v : Int) : WhoP := ⟨x.set ||| n, max x.lv v, x.ro⟩
theorem with_at {P : PolP} {k : Nat} {x : WhoP} (hx : P.who[k]? = some x) (y : WhoP) : (withH P (P.who.set k y)).who[k]? = some y := by
  have hk := (List.getElem?_eq_some_iff.1 hx).1
  show (P.who.set k y)[k]? = some y
  rw [List.getElem?_set_self hk]
theorem or_left (a b : Nat) : a &&& (a ||| b) = a := sub_iff.2 fun i hi => by rw [Nat.testBit_or, hi, Bool.true_or]
theorem or_right (a b : Nat) : b &&& (a ||| b) = b := sub_iff.2 fun i hi => by rw [Nat.testBit_or, hi, Bool.or_true]
theorem below_more (x : WhoP) (n : Nat) (v : Int) : belowB x.set x.lv (moreW x n v).set (moreW x n v).lv = true := belowB_iff.2 ⟨or_left _ _, by show _ ≤ max _ _; omega⟩
theorem below_add (x : WhoP) (n : Nat) (v : Int) : belowB n v (moreW x n v).set (moreW x n v).lv = true := belowB_iff.2 ⟨or_right _ _, by show _ ≤ max _ _; omega⟩
theorem below_meet (a b : Nat) (v u : Int) : belowB (a &&& b) (min v u) b u = true := belowB_iff.2 ⟨sub_iff.2 fun i hi => by rw [Nat.testBit_and, Bool.and_eq_true] at hi; exact hi.2, by omega⟩
theorem all_set {α : Type} {p : Nat → α → Prop} {l : List α} {k : Nat} {a : α} (h : AllI_ p l) (ha : p k a) : AllI_ p (l.set k a) := fun i x e => by
  rw [List.getElem?_set] at e
  split at e
  · next hik =>
    subst hik
    split at e
    · injection e with e
      subst e
      exact ha
    · cases e
  · exact h i x e
theorem right_withH {P : PolP} {k n : Nat} {v : Int} {x : WhoP} (h : RightPol P) (hx : P.who[k]? = some x) (hn : n < 256) (h0 : 0 ≤ v) (h3 : v ≤ 3) : RightPol (withH P (P.who.set k (moreW x n v))) := by
  obtain ⟨⟨he, hg, hw, hu, hr⟩, ae, ag, aw, ar⟩ := h
  refine ⟨⟨he, hg, by show 1 ≤ (P.who.set k _).length ∧ (P.who.set k _).length ≤ 8; rw [List.length_set]; exact hw, hu, hr⟩, ae, ag, all_set aw ?_, ar⟩
  obtain ⟨h1, h2⟩ := aw k x hx
  refine ⟨?_, h2⟩
  show rightB (x.set ||| n) (max x.lv v) = true
  unfold rightB at h1 ⊢
  simp only [Bool.and_eq_true, decide_eq_true_eq] at h1 ⊢
  exact ⟨⟨Nat.or_lt_two_pow (n := 8) h1.1.1 hn, by omega⟩, by omega⟩
theorem wd_withH {P : PolP} {k n : Nat} {v : Int} {x : WhoP} (h : PolWd P) (hx : P.who[k]? = some x) (hn : n < 256) : PolWd (withH P (P.who.set k (moreW x n v))) := by
  obtain ⟨hg, hw, hr, l1, l2, l3, l4, l5⟩ := h
  refine ⟨hg, fun y hy => ?_, hr, l1, l2, by show (P.who.set k _).length ≤ 1000000; rw [List.length_set]; exact l3, l4, l5⟩
  rcases List.mem_or_eq_of_mem_set hy with hy | rfl
  · exact hw y hy
  · obtain ⟨h1, h2⟩ := hw x (List.mem_of_getElem? hx)
    exact ⟨Nat.or_lt_two_pow (n := 64) h1 (Nat.lt_of_lt_of_le hn (by decide)), h2⟩
theorem rd_withH {w : World} {B : Nat} {s : Slp} {P : PolP} {l : List WhoP} (h : PolRd w B s P) {A : Option Addr} (c : Nat) (hr : RdR w B A l.length (l.flatMap whoV)) : PolRd w B { s with Ah := A, ch := c } (withH P l) := ⟨h.1, h.2.1, hr, h.2.2.2.1, h.2.2.2.2⟩
theorem flat_set : ∀ (l : List WhoP) (k : Nat) (x y : WhoP), l[k]? = some x → y.ro = x.ro → (l.set k y).flatMap whoV = ((l.flatMap whoV).set (k * 3) (.int .u64 (y.set : Int))).set (k * 3 + 1) (.int .i64 y.lv)
  | [], _, _, _, e, _ => by simp at e
  | a :: l, 0, x, y, e, hr => by
    simp at e
    subst e
    simp [whoV, hr]
  | a :: l, k + 1, x, y, e, hr => by
    rw [List.getElem?_cons_succ] at e
    rw [List.set_cons_succ, List.flatMap_cons, flat_set l k x y e hr, List.flatMap_cons, Nat.succ_mul]
    rfl
theorem set_sub {xs : List Value} {cs : Array Value} (i : Nat) (a : Value) (h : ∀ (j : Nat) u, xs[j]? = some u → cs[j]? = some u) : ∀ (j : Nat) u, (xs.set i a)[j]? = some u → (cs.setIfInBounds i a)[j]? = some u := fun j u hu => by
  rw [List.getElem?_set] at hu
  rw [Array.getElem?_setIfInBounds]
  split at hu
  · next e =>
    subst e
    split at hu
    · next hl =>
      have hc := h i xs[i] (List.getElem?_eq_getElem hl)
      have hs := (Array.getElem?_eq_some_iff.1 hc).1
      rw [if_pos rfl, if_pos hs]
      exact hu
    · cases hu
  · next e =>
    rw [if_neg e]
    exact h j u hu
theorem own_blk {w : World} {B n size c g o : Nat} {E : TypeId} {xs : List Value} (ho : 0 = o) (h : w.ownsRow B E size (.slice (some ⟨g, o, none⟩) n c) n xs) : ∃ cur : Array Value, Blk w g E cur ∧ B ≤ g ∧ ∀ (j : Nat) u, xs[j]? = some u → cur[j]? = some u := by
  subst ho
  rcases h.2 with ⟨e, _⟩ | ⟨g', cap, cur, e, hb, hh, _⟩
  · cases e
  · injection e with e1 e2 e3
    injection e1 with e1
    injection e1 with e1
    subst e1
    have hB : Blk w g E cur := hh
    refine ⟨cur, hB, hb, fun j u hu => ?_⟩
    have hc := h.cells (g := g) rfl j u hu
    rw [add_at, Nat.zero_add, hB.cell j] at hc
    exact hc
/-- A principal's label in a row of the call's own turns. -/
theorem rd_who_set {w : World} {B n c g o k : Nat} {l : List WhoP} {x : WhoP} (ho : 0 = o) (h : w.ownsRow B 46 3 (.slice (some ⟨g, o, none⟩) n c) n (l.flatMap whoV)) (hx : l[k]? = some x) (y : WhoP) (hr : y.ro = x.ro) :
    RdR ((w.setCell ⟨g, o + k * 3, none⟩ (.int .u64 (y.set : Int))).setCell ⟨g, o + k * 3 + 1, none⟩ (.int .i64 y.lv)) w.heap.size (some ⟨g, o, none⟩) n ((l.set k y).flatMap whoV) := by
  obtain ⟨cur, hB, hb, hc⟩ := own_blk ho h
  subst ho
  refine fun _ => ⟨g, 0, rfl, hB.lt, fun j u hu => ?_⟩
  have h2 := (hB.set_ (0 + k * 3) (.int .u64 (y.set : Int))).set_ (0 + k * 3 + 1) (.int .i64 y.lv)
  rw [flat_set l k x y hx hr] at hu
  rw [Nat.zero_add j, h2.cell j]
  rw [Nat.zero_add]
  exact set_sub _ _ (set_sub _ _ hc) j u hu
/-- What a walk reads of an own row of principals, and that it may be written. -/
theorem own_who {w : World} {B n c g o k : Nat} {l : List WhoP} {x : WhoP} (ho : 0 = o) (h : w.ownsRow B 46 3 (.slice (some ⟨g, o, none⟩) n c) n (l.flatMap whoV)) (hx : l[k]? = some x) :
    g < w.heap.size ∧ B ≤ g ∧ w.cell? ⟨g, o + k * 3, none⟩ = some (.int .u64 (x.set : Int)) ∧ w.cell? ⟨g, o + k * 3 + 1, none⟩ = some (.int .i64 x.lv) ∧ ∀ j, w.frozen? ⟨g, j, none⟩ = false := by
  obtain ⟨cur, hB, hb, hc⟩ := own_blk ho h
  subst ho
  refine ⟨hB.lt, hb, ?_, ?_, fun j => hB.frozen j⟩
  · rw [hB.cell, Nat.zero_add]
    exact hc (k * 3 + 0) _ (flat_get whoV 3 len_who l k 0 x hx (by decide))
  · rw [hB.cell, Nat.zero_add]
    exact hc (k * 3 + 1) _ (flat_get whoV 3 len_who l k 1 x hx (by decide))
theorem who_ones (l : List WhoP) : ∀ u ∈ l.flatMap whoV, u.oneCell' = true := fun u hu => by
  obtain ⟨r, _, h⟩ := List.mem_flatMap.1 hu
  simp [whoV] at h
  rcases h with rfl | rfl | rfl <;> rfl
end Go.Proofs.Ytakofbkbbmpfeaa

namespace Go.Proofs.Ytakofbkbbmpfeaa
open Go.RowKit
theorem flat_put {α : Type} (f : α → List Value) (sz : Nat) (hk : ∀ a, (f a).length = sz) : ∀ (l : List α) (k j : Nat) (a a' : α) (u : Value), l[k]? = some a → j < sz → f a' = (f a).set j u → (l.set k a').flatMap f = (l.flatMap f).set (k * sz + j) u
  | [], _, _, _, _, _, e, _, _ => by simp at e
  | b :: l, 0, j, a, a', u, e, hj, hf => by
    simp at e
    subst e
    rw [List.set_cons_zero, List.flatMap_cons, List.flatMap_cons, hf, Nat.zero_mul, Nat.zero_add, List.set_append_left _ _ (by rw [hk]; exact hj)]
  | b :: l, k + 1, j, a, a', u, e, hj, hf => by
    rw [List.getElem?_cons_succ] at e
    rw [List.set_cons_succ, List.flatMap_cons, List.flatMap_cons, flat_put f sz hk l k j a a' u e hj hf, List.set_append_right _ _ (by rw [hk, Nat.succ_mul]; omega), hk, show (k + 1) * sz + j - sz = k * sz + j by rw [Nat.succ_mul]; omega]
/-- A cell of an own row turns. -/
theorem own_put {w : World} {B E n size c g o i : Nat} {u : Value} {xs : List Value} (ho : 0 = o) (h : w.ownsRow B E size (.slice (some ⟨g, o, none⟩) n c) n xs) : (w.setCell ⟨g, o + i, none⟩ u).ownsRow B E size (.slice (some ⟨g, o, none⟩) n c) n (xs.set i u) := by
  subst ho
  refine ⟨by rw [List.length_set]; exact h.1, ?_⟩
  rcases h.2 with ⟨e, _⟩ | ⟨g', cap, cur, e, hb, hh, hc, hm, hs, ht⟩
  · cases e
  · injection e with e1 e2 e3
    injection e1 with e1
    injection e1 with e1
    subst e1
    subst e3
    have hB : Blk w g E cur := hh
    rw [Nat.zero_add]
    refine .inr ⟨g, c, cur.setIfInBounds i u, rfl, hb, hB.set_ i u, hc, hm, by simpa using hs, ?_⟩
    rw [Array.toList_setIfInBounds, List.take_set, ht]
theorem blk_ne {w : World} {g g' : Nat} {T T' : TypeId} {cs cs' : Array Value} (h : Blk w g T cs) (h' : Blk w g' T' cs') (hT : T ≠ T') : g ≠ g' := by
  rintro rfl
  unfold Blk at h h'
  rw [h] at h'
  injection h' with h'
  injection h' with _ h'
  exact hT h'
/-- It lies in a block of its own. -/
theorem own_at {w : World} {B E n size : Nat} {v : Value} {xs : List Value} (h : w.ownsRow B E size v n xs) (hn : 0 < n) : ∃ g c, v = .slice (some ⟨g, 0, none⟩) n c ∧ n ≤ c := by
  rcases h.2 with ⟨_, e⟩ | ⟨g, c, cur, e, _, _, hc, _⟩
  · omega
  · exact ⟨g, c, e, hc⟩
theorem own_cel {w : World} {B E n size c g o : Nat} {xs : List Value} (ho : 0 = o) (h : w.ownsRow B E size (.slice (some ⟨g, o, none⟩) n c) n xs) : g < w.heap.size ∧ B ≤ g ∧ (∀ (j : Nat) u, xs[j]? = some u → w.cell? ⟨g, o + j, none⟩ = some u) ∧ ∀ j, w.frozen? ⟨g, j, none⟩ = false := by
  obtain ⟨cur, hB, hb, hc⟩ := own_blk ho h
  subst ho
  exact ⟨hB.lt, hb, fun j u hu => by rw [hB.cell, Nat.zero_add]; exact hc j u hu, fun j => hB.frozen j⟩
section
variable {w0 w : World} {gp gz : Nat} {R : Row5} {P : PolP} {g o c i : Nat} {u : Value}
theorem PolW.cell_e (h : PolW w0 w gp gz R P) (ho : 0 = o) (hR : R.e = .slice (some ⟨g, o, none⟩) P.ents.length c) : g < w.heap.size ∧ w0.heap.size ≤ g ∧ (∀ (j : Nat) u, (P.ents.flatMap entV)[j]? = some u → w.cell? ⟨g, o + j, none⟩ = some u) ∧ ∀ j, w.frozen? ⟨g, j, none⟩ = false := by
  have h1 := h.own_e
  rw [hR] at h1
  exact own_cel ho h1
theorem PolW.st_e (h : PolW w0 w gp gz R P) (ho : 0 = o) (hR : R.e = .slice (some ⟨g, o, none⟩) P.ents.length c) {k j : Nat} {a a' : EntP} (hx : P.ents[k]? = some a) (hj : j < 4) (hi : i = k * 4 + j) (hf : entV a' = (entV a).set j u) : PolW w0 (w.setCell ⟨g, o + i, none⟩ u) gp gz R { P with ents := P.ents.set k a' } := by
  obtain ⟨hb, hz, hzp, bz, bp, hr⟩ := h
  have h1 := hr.1
  rw [hR] at h1
  obtain ⟨cur, hB, hg, _⟩ := own_blk ho h1
  have e1 : (P.ents.set k a').flatMap entV = (P.ents.flatMap entV).set i u := by rw [hi]; exact flat_put entV 4 len_ent P.ents k j a a' u hx hj hf
  refine ⟨hb.setCell (p := ⟨g, o + i, none⟩) hg u, hz, hzp, bz.far (p := ⟨g, o + i, none⟩) (blk_ne bz hB (by decide)) u, bp.far (p := ⟨g, o + i, none⟩) (blk_ne bp hB (by decide)) u, ?_, polSet (hr.2.1) hB (by decide), polSet (hr.2.2.1) hB (by decide), polSet (hr.2.2.2.1) hB (by decide), polSet (hr.2.2.2.2) hB (by decide)⟩
  show (w.setCell ⟨g, o + i, none⟩ u).ownsRow w0.heap.size 44 4 R.e (P.ents.set k a').length ((P.ents.set k a').flatMap entV)
  rw [e1, List.length_set, hR]
  exact own_put ho h1
theorem PolW.cell_g (h : PolW w0 w gp gz R P) (ho : 0 = o) (hR : R.g = .slice (some ⟨g, o, none⟩) P.grp.length c) : g < w.heap.size ∧ w0.heap.size ≤ g ∧ (∀ (j : Nat) u, (P.grp.map uV)[j]? = some u → w.cell? ⟨g, o + j, none⟩ = some u) ∧ ∀ j, w.frozen? ⟨g, j, none⟩ = false := by
  have h1 := h.own_g
  rw [hR] at h1
  exact own_cel ho h1
theorem PolW.st_g (h : PolW w0 w gp gz R P) (ho : 0 = o) (hR : R.g = .slice (some ⟨g, o, none⟩) P.grp.length c) {k : Nat} {a' : Nat} (hi : i = k) (hf : uV a' = u) : PolW w0 (w.setCell ⟨g, o + i, none⟩ u) gp gz R { P with grp := P.grp.set k a' } := by
  obtain ⟨hb, hz, hzp, bz, bp, hr⟩ := h
  have h1 := hr.2.1
  rw [hR] at h1
  obtain ⟨cur, hB, hg, _⟩ := own_blk ho h1
  have e1 : (P.grp.set k a').map uV = (P.grp.map uV).set i u := by rw [List.map_set, hf, hi]
  refine ⟨hb.setCell (p := ⟨g, o + i, none⟩) hg u, hz, hzp, bz.far (p := ⟨g, o + i, none⟩) (blk_ne bz hB (by decide)) u, bp.far (p := ⟨g, o + i, none⟩) (blk_ne bp hB (by decide)) u, polSet (hr.1) hB (by decide), ?_, polSet (hr.2.2.1) hB (by decide), polSet (hr.2.2.2.1) hB (by decide), polSet (hr.2.2.2.2) hB (by decide)⟩
  show (w.setCell ⟨g, o + i, none⟩ u).ownsRow w0.heap.size 31 1 R.g (P.grp.set k a').length ((P.grp.set k a').map uV)
  rw [e1, List.length_set, hR]
  exact own_put ho h1
theorem PolW.cell_h (h : PolW w0 w gp gz R P) (ho : 0 = o) (hR : R.h = .slice (some ⟨g, o, none⟩) P.who.length c) : g < w.heap.size ∧ w0.heap.size ≤ g ∧ (∀ (j : Nat) u, (P.who.flatMap whoV)[j]? = some u → w.cell? ⟨g, o + j, none⟩ = some u) ∧ ∀ j, w.frozen? ⟨g, j, none⟩ = false := by
  have h1 := h.own_h
  rw [hR] at h1
  exact own_cel ho h1
theorem PolW.st_h (h : PolW w0 w gp gz R P) (ho : 0 = o) (hR : R.h = .slice (some ⟨g, o, none⟩) P.who.length c) {k j : Nat} {a a' : WhoP} (hx : P.who[k]? = some a) (hj : j < 3) (hi : i = k * 3 + j) (hf : whoV a' = (whoV a).set j u) : PolW w0 (w.setCell ⟨g, o + i, none⟩ u) gp gz R { P with who := P.who.set k a' } := by
  obtain ⟨hb, hz, hzp, bz, bp, hr⟩ := h
  have h1 := hr.2.2.1
  rw [hR] at h1
  obtain ⟨cur, hB, hg, _⟩ := own_blk ho h1
  have e1 : (P.who.set k a').flatMap whoV = (P.who.flatMap whoV).set i u := by rw [hi]; exact flat_put whoV 3 len_who P.who k j a a' u hx hj hf
  refine ⟨hb.setCell (p := ⟨g, o + i, none⟩) hg u, hz, hzp, bz.far (p := ⟨g, o + i, none⟩) (blk_ne bz hB (by decide)) u, bp.far (p := ⟨g, o + i, none⟩) (blk_ne bp hB (by decide)) u, polSet (hr.1) hB (by decide), polSet (hr.2.1) hB (by decide), ?_, polSet (hr.2.2.2.1) hB (by decide), polSet (hr.2.2.2.2) hB (by decide)⟩
  show (w.setCell ⟨g, o + i, none⟩ u).ownsRow w0.heap.size 46 3 R.h (P.who.set k a').length ((P.who.set k a').flatMap whoV)
  rw [e1, List.length_set, hR]
  exact own_put ho h1
theorem PolW.cell_u (h : PolW w0 w gp gz R P) (ho : 0 = o) (hR : R.u = .slice (some ⟨g, o, none⟩) P.up.length c) : g < w.heap.size ∧ w0.heap.size ≤ g ∧ (∀ (j : Nat) u, (P.up.map zV)[j]? = some u → w.cell? ⟨g, o + j, none⟩ = some u) ∧ ∀ j, w.frozen? ⟨g, j, none⟩ = false := by
  have h1 := h.own_u
  rw [hR] at h1
  exact own_cel ho h1
theorem PolW.st_u (h : PolW w0 w gp gz R P) (ho : 0 = o) (hR : R.u = .slice (some ⟨g, o, none⟩) P.up.length c) {k : Nat} {a' : Int} (hi : i = k) (hf : zV a' = u) : PolW w0 (w.setCell ⟨g, o + i, none⟩ u) gp gz R { P with up := P.up.set k a' } := by
  obtain ⟨hb, hz, hzp, bz, bp, hr⟩ := h
  have h1 := hr.2.2.2.1
  rw [hR] at h1
  obtain ⟨cur, hB, hg, _⟩ := own_blk ho h1
  have e1 : (P.up.set k a').map zV = (P.up.map zV).set i u := by rw [List.map_set, hf, hi]
  refine ⟨hb.setCell (p := ⟨g, o + i, none⟩) hg u, hz, hzp, bz.far (p := ⟨g, o + i, none⟩) (blk_ne bz hB (by decide)) u, bp.far (p := ⟨g, o + i, none⟩) (blk_ne bp hB (by decide)) u, polSet (hr.1) hB (by decide), polSet (hr.2.1) hB (by decide), polSet (hr.2.2.1) hB (by decide), ?_, polSet (hr.2.2.2.2) hB (by decide)⟩
  show (w.setCell ⟨g, o + i, none⟩ u).ownsRow w0.heap.size 3 1 R.u (P.up.set k a').length ((P.up.set k a').map zV)
  rw [e1, List.length_set, hR]
  exact own_put ho h1
theorem PolW.cell_r (h : PolW w0 w gp gz R P) (ho : 0 = o) (hR : R.r = .slice (some ⟨g, o, none⟩) P.rules.length c) : g < w.heap.size ∧ w0.heap.size ≤ g ∧ (∀ (j : Nat) u, (P.rules.flatMap ruleV)[j]? = some u → w.cell? ⟨g, o + j, none⟩ = some u) ∧ ∀ j, w.frozen? ⟨g, j, none⟩ = false := by
  have h1 := h.own_r
  rw [hR] at h1
  exact own_cel ho h1
theorem PolW.st_r (h : PolW w0 w gp gz R P) (ho : 0 = o) (hR : R.r = .slice (some ⟨g, o, none⟩) P.rules.length c) {k j : Nat} {a a' : RuleP} (hx : P.rules[k]? = some a) (hj : j < 12) (hi : i = k * 12 + j) (hf : ruleV a' = (ruleV a).set j u) : PolW w0 (w.setCell ⟨g, o + i, none⟩ u) gp gz R { P with rules := P.rules.set k a' } := by
  obtain ⟨hb, hz, hzp, bz, bp, hr⟩ := h
  have h1 := hr.2.2.2.2
  rw [hR] at h1
  obtain ⟨cur, hB, hg, _⟩ := own_blk ho h1
  have e1 : (P.rules.set k a').flatMap ruleV = (P.rules.flatMap ruleV).set i u := by rw [hi]; exact flat_put ruleV 12 len_rule P.rules k j a a' u hx hj hf
  refine ⟨hb.setCell (p := ⟨g, o + i, none⟩) hg u, hz, hzp, bz.far (p := ⟨g, o + i, none⟩) (blk_ne bz hB (by decide)) u, bp.far (p := ⟨g, o + i, none⟩) (blk_ne bp hB (by decide)) u, polSet (hr.1) hB (by decide), polSet (hr.2.1) hB (by decide), polSet (hr.2.2.1) hB (by decide), polSet (hr.2.2.2.1) hB (by decide), ?_⟩
  show (w.setCell ⟨g, o + i, none⟩ u).ownsRow w0.heap.size 51 12 R.r (P.rules.set k a').length ((P.rules.set k a').flatMap ruleV)
  rw [e1, List.length_set, hR]
  exact own_put ho h1
end
theorem PolWd.st_e {P : PolP} {k : Nat} {a : EntP} (h : PolWd P) : PolWd { P with ents := P.ents.set k a } := by
  obtain ⟨hg, hw, hr, l1, l2, l3, l4, l5⟩ := h
  exact ⟨hg, hw, hr, by show (P.ents.set k a).length ≤ 1000000; rw [List.length_set]; exact l1, l2, l3, l4, l5⟩
theorem PolWd.cut_e {P : PolP} (m : Nat) (h : PolWd P) : PolWd { P with ents := P.ents.take m } := by
  obtain ⟨hg, hw, hr, l1, l2, l3, l4, l5⟩ := h
  exact ⟨hg, hw, hr, by show (P.ents.take m).length ≤ 1000000; rw [List.length_take]; omega, l2, l3, l4, l5⟩
theorem PolWd.st_g {P : PolP} {k : Nat} {a : Nat} (h : PolWd P) (ha : a < 18446744073709551616) : PolWd { P with grp := P.grp.set k a } := by
  obtain ⟨hg, hw, hr, l1, l2, l3, l4, l5⟩ := h
  exact ⟨fun y hy => by
    rcases List.mem_or_eq_of_mem_set hy with hy | rfl
    · exact hg y hy
    · exact ha, hw, hr, l1, by show (P.grp.set k a).length ≤ 1000000; rw [List.length_set]; exact l2, l3, l4, l5⟩
theorem PolWd.app_g {P : PolP} {a : Nat} (h : PolWd P) (ha : a < 18446744073709551616) (hl : P.grp.length + 1 ≤ 1000000) : PolWd { P with grp := P.grp ++ [a] } := by
  obtain ⟨hg, hw, hr, l1, l2, l3, l4, l5⟩ := h
  exact ⟨fun y hy => by
    rcases List.mem_append.1 hy with hy | hy
    · exact hg y hy
    · rw [List.mem_singleton.1 hy]; exact ha, hw, hr, l1, by show (P.grp ++ [a]).length ≤ 1000000; rw [List.length_append]; exact hl, l3, l4, l5⟩
theorem PolWd.cut_g {P : PolP} (m : Nat) (h : PolWd P) : PolWd { P with grp := P.grp.take m } := by
  obtain ⟨hg, hw, hr, l1, l2, l3, l4, l5⟩ := h
  exact ⟨fun y hy => hg y (List.mem_of_mem_take hy), hw, hr, l1, by show (P.grp.take m).length ≤ 1000000; rw [List.length_take]; omega, l3, l4, l5⟩
theorem PolWd.st_h {P : PolP} {k : Nat} {a : WhoP} (h : PolWd P) (ha : a.set < 18446744073709551616 ∧ a.ro < 18446744073709551616) : PolWd { P with who := P.who.set k a } := by
  obtain ⟨hg, hw, hr, l1, l2, l3, l4, l5⟩ := h
  exact ⟨hg, fun y hy => by
    rcases List.mem_or_eq_of_mem_set hy with hy | rfl
    · exact hw y hy
    · exact ha, hr, l1, l2, by show (P.who.set k a).length ≤ 1000000; rw [List.length_set]; exact l3, l4, l5⟩
theorem PolWd.app_h {P : PolP} {a : WhoP} (h : PolWd P) (ha : a.set < 18446744073709551616 ∧ a.ro < 18446744073709551616) (hl : P.who.length + 1 ≤ 1000000) : PolWd { P with who := P.who ++ [a] } := by
  obtain ⟨hg, hw, hr, l1, l2, l3, l4, l5⟩ := h
  exact ⟨hg, fun y hy => by
    rcases List.mem_append.1 hy with hy | hy
    · exact hw y hy
    · rw [List.mem_singleton.1 hy]; exact ha, hr, l1, l2, by show (P.who ++ [a]).length ≤ 1000000; rw [List.length_append]; exact hl, l4, l5⟩
theorem PolWd.cut_h {P : PolP} (m : Nat) (h : PolWd P) : PolWd { P with who := P.who.take m } := by
  obtain ⟨hg, hw, hr, l1, l2, l3, l4, l5⟩ := h
  exact ⟨hg, fun y hy => hw y (List.mem_of_mem_take hy), hr, l1, l2, by show (P.who.take m).length ≤ 1000000; rw [List.length_take]; omega, l4, l5⟩
theorem PolWd.st_u {P : PolP} {k : Nat} {a : Int} (h : PolWd P) : PolWd { P with up := P.up.set k a } := by
  obtain ⟨hg, hw, hr, l1, l2, l3, l4, l5⟩ := h
  exact ⟨hg, hw, hr, l1, l2, l3, by show (P.up.set k a).length ≤ 1000000; rw [List.length_set]; exact l4, l5⟩
theorem PolWd.st_r {P : PolP} {k : Nat} {a : RuleP} (h : PolWd P) (ha : RuleW a) : PolWd { P with rules := P.rules.set k a } := by
  obtain ⟨hg, hw, hr, l1, l2, l3, l4, l5⟩ := h
  exact ⟨hg, hw, fun y hy => by
    rcases List.mem_or_eq_of_mem_set hy with hy | rfl
    · exact hr y hy
    · exact ha, l1, l2, l3, l4, by show (P.rules.set k a).length ≤ 1000000; rw [List.length_set]; exact l5⟩
theorem PolWd.app_r {P : PolP} {a : RuleP} (h : PolWd P) (ha : RuleW a) (hl : P.rules.length + 1 ≤ 1000000) : PolWd { P with rules := P.rules ++ [a] } := by
  obtain ⟨hg, hw, hr, l1, l2, l3, l4, l5⟩ := h
  exact ⟨hg, hw, fun y hy => by
    rcases List.mem_append.1 hy with hy | hy
    · exact hr y hy
    · rw [List.mem_singleton.1 hy]; exact ha, l1, l2, l3, l4, by show (P.rules ++ [a]).length ≤ 1000000; rw [List.length_append]; exact hl⟩
theorem PolWd.cut_r {P : PolP} (m : Nat) (h : PolWd P) : PolWd { P with rules := P.rules.take m } := by
  obtain ⟨hg, hw, hr, l1, l2, l3, l4, l5⟩ := h
  exact ⟨hg, hw, fun y hy => hr y (List.mem_of_mem_take hy), l1, l2, l3, l4, by show (P.rules.take m).length ≤ 1000000; rw [List.length_take]; omega⟩
theorem rdR_cut {w : World} {B n m : Nat} {A : Option Addr} {vs ws : List Value} (h : RdR w B A n vs) (hm : m ≤ n) (hv : ∀ (j : Nat) u, ws[j]? = some u → vs[j]? = some u) : RdR w B A m ws := fun h0 => by
  obtain ⟨g, o, e, hg, hc⟩ := h (by omega)
  exact ⟨g, o, e, hg, fun j u hu => hc j u (hv j u hu)⟩
theorem flat_take {α : Type} (f : α → List Value) (l : List α) (m : Nat) : ∀ (j : Nat) u, ((l.take m).flatMap f)[j]? = some u → (l.flatMap f)[j]? = some u := fun j u hu => by
  have e : l.flatMap f = (l.take m).flatMap f ++ (l.drop m).flatMap f := by rw [← List.flatMap_append, List.take_append_drop]
  rw [e, List.getElem?_append_left (List.getElem?_eq_some_iff.1 hu).1]
  exact hu
theorem map_take {α : Type} (f : α → Value) (l : List α) (m : Nat) : ∀ (j : Nat) u, ((l.take m).map f)[j]? = some u → (l.map f)[j]? = some u := fun j u hu => by
  have e : l.map f = (l.take m).map f ++ (l.drop m).map f := by rw [← List.map_append, List.take_append_drop]
  rw [e, List.getElem?_append_left (List.getElem?_eq_some_iff.1 hu).1]
  exact hu
/-- Append to an own row: the first that lay there stay where they were. -/
theorem app_first (w : World) {TS E : TypeId} {z : Value} {size bytes : Nat} (hts : Try.prog.underlying TS = some (.slice E)) (hie : (Try.prog.info? E).map (fun i => (i.zero, i.size, i.bytes)) = some (some z, size, bytes)) (hzs : z.cells.size = size) (hsz : 0 < size) (hby : bytes ≤ 1000)
    {base n g c0 : Nat} {xs : List Value} (h : w.ownsRow base E size (.slice (some ⟨g, 0, none⟩) n c0) n xs) (a : Addr) (m c : Nat) (news : List Value) (hl : news.length = m * size) (hnews : ∀ (j : Nat) u, news[j]? = some u → w.cell? (a.add j) = some u) (h1 : ∀ u ∈ news, u.oneCell' = true)
    (hn : n + m ≤ 1000000) (hB : base ≤ w.heap.size) (ty : TypeId) :
    ∃ g' c' w', (Builtin.append_ #[TS, TS] ty #[.slice (some ⟨g, 0, none⟩) n c0, .slice (some a) m c]).run Try.prog w = .ok (.slice (some ⟨g', 0, none⟩) (n + m) c') w' ∧ w'.ownsRow base E size (.slice (some ⟨g', 0, none⟩) (n + m) c') (n + m) (xs ++ news) ∧ w.grownBy w' (Value.slice (some ⟨g, 0, none⟩) n c0).ownBlock ∧ w.heap.size ≤ w'.heap.size ∧ ∀ (j : Nat) u, xs[j]? = some u → w'.cell? ⟨g, j, none⟩ = some u := by
  obtain ⟨i0, hi, hz0, hz1, hz2⟩ := info_parts hie
  have hbb : (n + m) * bytes ≤ 1000000 * 1000 := Nat.mul_le_mul hn hby
  obtain ⟨v', w', hr, ho, hg, hnil⟩ := run_append_own (P := Try.prog) w base TS ty E i0 z size bytes hts hi hz0 hz1 hz2 hzs hsz _ n xs h a m c news hl hnews h1 (by unfold maxLen; omega) (by omega) hB
  have hk := h.1
  have hcl : ∀ (j : Nat) u, xs[j]? = some u → w.cell? ⟨g, j, none⟩ = some u := fun j u hu => by
    have hx := h.cells (g := g) rfl j u hu
    rw [add_at, Nat.zero_add] at hx
    exact hx
  rcases h.2 with ⟨e, _⟩ | ⟨g1, c1, cur, e, hBk, hc, hle, hcm, hcs, htk⟩
  · cases e
  · injection e with e1 e2 e3
    injection e1 with e1
    injection e1 with e1
    subst e1
    subst e3
    by_cases hroom : n + m ≤ c0
    · have := run_append_room (P := Try.prog) w TS ty E i0 hts hi g n c0 cur hc a m c news (by rw [hz1]; exact hl) hnews h1 hroom (by rw [hz1, hcs, hl, ← Nat.add_mul]; exact Nat.mul_le_mul_right _ hroom)
      rw [this] at hr
      injection hr with e1 e2
      subst e1
      refine ⟨g, c0, w', by rw [this, e2], ho, hg, hg.size, fun j u hu => ?_⟩
      have hx := ho.cells (g := g) rfl j u (by rw [List.getElem?_append_left (List.getElem?_eq_some_iff.1 hu).1]; exact hu)
      rw [add_at, Nat.zero_add] at hx
      exact hx
    · have := run_append_grow (P := Try.prog) w TS ty E i0 _ hts hi hz0 ⟨g, 0, none⟩ n c0 xs (by rw [hz1]; exact hk) (fun j u hu => h.cells (g := g) rfl j u hu) a m c news (by rw [hz1]; exact hl) hnews (by omega) (by omega) (growslice_fits (by omega) (by rw [hz2]; omega))
      rw [this] at hr
      injection hr with e1 e2
      subst e1
      refine ⟨_, _, w', by rw [this, e2], ho, hg, hg.size, fun j u hu => ?_⟩
      rw [← hcl j u hu, ← e2]
      have hlt : g < w.drew.heap.size := (Array.getElem?_eq_some_iff.1 hc).1
      exact (bel_alloc (Below.refl w.drew.heap.size w.drew) _).cell (p := ⟨g, j, none⟩) hlt
end Go.Proofs.Ytakofbkbbmpfeaa

namespace Go.Proofs.Ytakofbkbbmpfeaa
open Go.RowKit
theorem own_ato {w : World} {B E n size : Nat} {v : Value} {xs : List Value} (h : w.ownsRow B E size v n xs) (hn : 0 < n) : ∃ g o c, 0 = o ∧ v = .slice (some ⟨g, o, none⟩) n c ∧ n ≤ c := by
  obtain ⟨g, c, e, hc⟩ := own_at h hn
  exact ⟨g, 0, c, rfl, e, hc⟩
theorem own_weak {w : World} {B B' n size : Nat} {E : TypeId} {v : Value} {xs : List Value} (h : w.ownsRow B E size v n xs) (hB : B' ≤ B) : w.ownsRow B' E size v n xs := by
  refine ⟨h.1, ?_⟩
  rcases h.2 with h | ⟨g, cap, cur, e, hb, hr⟩
  · exact .inl h
  · exact .inr ⟨g, cap, cur, e, Nat.le_trans hB hb, hr⟩
theorem RowsW.weak {w : World} {B B' : Nat} {R : Row5} {P : PolP} (h : RowsW B w R P) (hB : B' ≤ B) : RowsW B' w R P := ⟨own_weak h.1 hB, own_weak h.2.1 hB, own_weak h.2.2.1 hB, own_weak h.2.2.2.1 hB, own_weak h.2.2.2.2 hB⟩
/-- The policy lies in block gp, its slices as s says: those of rows R0 of the call's own, or cut; the result's block is still empty. -/
def PolE (w V : World) (gp gz : Nat) (R0 : Row5) (P0 : PolP) (s : Slp) (P : PolP) : Prop :=
  Below w.heap.size w V ∧ w.heap.size ≤ gz ∧ gz < gp ∧ Blk V gz 28 nil5 ∧ PolBl V gp s P.ents.length P.grp.length P.who.length P.up.length P.rules.length ∧ RowsW w.heap.size V R0 P0 ∧ PolWd P ∧ ∀ V', RowsW w.heap.size V' R0 P0 → PolRd V' V'.heap.size s P
def BentQ (w V : World) (gp gz : Nat) : Prop := ∃ (R0 : Row5) (P0 : PolP) (s : Slp) (P : PolP), PolE w V gp gz R0 P0 s P
def BentRet (w : World) (e : Ending) (w' : World) : Prop := ∃ (s : Slp) (P : PolP), e = .returned (.agg #[.slice s.Ae P.ents.length s.ce, .slice s.Ag P.grp.length s.cg, .slice s.Ah P.who.length s.ch, .slice s.Au P.up.length s.cu, .slice s.Ar P.rules.length s.cr]) ∧ PolRd w' w'.heap.size s P ∧ PolWd P ∧ Below w.heap.size w w'
theorem polE_of {w V : World} {gp gz : Nat} {R : Row5} {P : PolP} (h : PolW w V gp gz R P) (hwd : PolWd P) : ∃ s : Slp, (R.e = .slice s.Ae P.ents.length s.ce ∧ R.g = .slice s.Ag P.grp.length s.cg ∧ R.h = .slice s.Ah P.who.length s.ch ∧ R.u = .slice s.Au P.up.length s.cu ∧ R.r = .slice s.Ar P.rules.length s.cr) ∧ PolE w V gp gz R P s P := by
  obtain ⟨s, e1, e2, e3, e4, e5, _, _, _⟩ := h.rows.rdc
  have hb := h.blk
  rw [e1, e2, e3, e4, e5] at hb
  refine ⟨s, ⟨e1, e2, e3, e4, e5⟩, h.bel, h.2.1, h.2.2.1, h.2.2.2.1, hb, h.rows, hwd, fun V' h' => ?_⟩
  obtain ⟨⟨a1, k1, a2, k2, a3, k3, a4, k4, a5, k5⟩, d1, d2, d3, d4, d5, hr, _, _⟩ := h'.rdc
  obtain ⟨b1, m1, b2, m2, b3, m3, b4, m4, b5, m5⟩ := s
  rw [e1] at d1; rw [e2] at d2; rw [e3] at d3; rw [e4] at d4; rw [e5] at d5
  injection d1 with x1 _ y1
  injection d2 with x2 _ y2
  injection d3 with x3 _ y3
  injection d4 with x4 _ y4
  injection d5 with x5 _ y5
  dsimp only at x1 y1 x2 y2 x3 y3 x4 y4 x5 y5
  subst x1 y1 x2 y2 x3 y3 x4 y4 x5 y5
  exact hr
theorem bentQ {w V : World} {gp gz : Nat} {R : Row5} {P : PolP} (h : PolW w V gp gz R P) (hwd : PolWd P) : BentQ w V gp gz := by
  obtain ⟨s, _, hE⟩ := polE_of h hwd
  exact ⟨R, P, s, P, hE⟩
theorem len_cut {α : Type} {l : List α} {m n : Nat} (hl : l.length = n) (hm : m ≤ n) : (l.take m).length = m := by rw [List.length_take, hl]; omega
theorem bentQ_cut_e {w V : World} {gp gz g o n m c : Nat} {R : Row5} {P : PolP} (h : PolW w V gp gz R P) (hwd : PolWd P) (hR : R.e = .slice (some ⟨g, o, none⟩) n c) (hl : P.ents.length = n) (hm : m ≤ n) : BentQ w (V.setCell ⟨gp, 0, none⟩ (.slice (some ⟨g, o, none⟩) m c)) gp gz := by
  obtain ⟨s, ⟨e1, _, _, _, _⟩, hb, hz, hzp, bz, bp, hr, hwd, hrd⟩ := polE_of h hwd
  have hlen := len_cut hl hm
  rw [hR] at e1
  injection e1 with e1 e2 e3
  rw [e1, e3]
  refine ⟨R, P, s, { P with ents := P.ents.take m }, hb.setCell (p := ⟨gp, 0, none⟩) (by show w.heap.size ≤ gp; omega) _, hz, hzp, bz.far (p := ⟨gp, 0, none⟩) (by show gz ≠ gp; omega) _, ?_, hr.setZ bp 0 _, hwd.cut_e m, fun V' h' => ?_⟩
  · have h1 := Blk.set_ bp 0 (.slice s.Ae m s.ce)
    show Blk _ gp _ #[.slice s.Ae (P.ents.take m).length s.ce, _, _, _, _]
    rw [hlen]
    simpa using h1
  · obtain ⟨r1, r2, r3, r4, r5⟩ := hrd V' h'
    refine ⟨?_, r2, r3, r4, r5⟩
    show RdR V' _ s.Ae (P.ents.take m).length _
    rw [hlen]
    exact rdR_cut r1 (by omega) (flat_take entV P.ents m)
theorem bentQ_cut_g {w V : World} {gp gz g o n m c : Nat} {R : Row5} {P : PolP} (h : PolW w V gp gz R P) (hwd : PolWd P) (hR : R.g = .slice (some ⟨g, o, none⟩) n c) (hl : P.grp.length = n) (hm : m ≤ n) : BentQ w (V.setCell ⟨gp, 1, none⟩ (.slice (some ⟨g, o, none⟩) m c)) gp gz := by
  obtain ⟨s, ⟨_, e1, _, _, _⟩, hb, hz, hzp, bz, bp, hr, hwd, hrd⟩ := polE_of h hwd
  have hlen := len_cut hl hm
  rw [hR] at e1
  injection e1 with e1 e2 e3
  rw [e1, e3]
  refine ⟨R, P, s, { P with grp := P.grp.take m }, hb.setCell (p := ⟨gp, 1, none⟩) (by show w.heap.size ≤ gp; omega) _, hz, hzp, bz.far (p := ⟨gp, 1, none⟩) (by show gz ≠ gp; omega) _, ?_, hr.setZ bp 1 _, hwd.cut_g m, fun V' h' => ?_⟩
  · have h1 := Blk.set_ bp 1 (.slice s.Ag m s.cg)
    show Blk _ gp _ #[_, .slice s.Ag (P.grp.take m).length s.cg, _, _, _]
    rw [hlen]
    simpa using h1
  · obtain ⟨r1, r2, r3, r4, r5⟩ := hrd V' h'
    refine ⟨r1, ?_, r3, r4, r5⟩
    show RdR V' _ s.Ag (P.grp.take m).length _
    rw [hlen]
    exact rdR_cut r2 (by omega) (map_take uV P.grp m)
theorem bentQ_cut_h {w V : World} {gp gz g o n m c : Nat} {R : Row5} {P : PolP} (h : PolW w V gp gz R P) (hwd : PolWd P) (hR : R.h = .slice (some ⟨g, o, none⟩) n c) (hl : P.who.length = n) (hm : m ≤ n) : BentQ w (V.setCell ⟨gp, 2, none⟩ (.slice (some ⟨g, o, none⟩) m c)) gp gz := by
  obtain ⟨s, ⟨_, _, e1, _, _⟩, hb, hz, hzp, bz, bp, hr, hwd, hrd⟩ := polE_of h hwd
  have hlen := len_cut hl hm
  rw [hR] at e1
  injection e1 with e1 e2 e3
  rw [e1, e3]
  refine ⟨R, P, s, { P with who := P.who.take m }, hb.setCell (p := ⟨gp, 2, none⟩) (by show w.heap.size ≤ gp; omega) _, hz, hzp, bz.far (p := ⟨gp, 2, none⟩) (by show gz ≠ gp; omega) _, ?_, hr.setZ bp 2 _, hwd.cut_h m, fun V' h' => ?_⟩
  · have h1 := Blk.set_ bp 2 (.slice s.Ah m s.ch)
    show Blk _ gp _ #[_, _, .slice s.Ah (P.who.take m).length s.ch, _, _]
    rw [hlen]
    simpa using h1
  · obtain ⟨r1, r2, r3, r4, r5⟩ := hrd V' h'
    refine ⟨r1, r2, ?_, r4, r5⟩
    show RdR V' _ s.Ah (P.who.take m).length _
    rw [hlen]
    exact rdR_cut r3 (by omega) (flat_take whoV P.who m)
theorem bentQ_cut_r {w V : World} {gp gz g o n m c : Nat} {R : Row5} {P : PolP} (h : PolW w V gp gz R P) (hwd : PolWd P) (hR : R.r = .slice (some ⟨g, o, none⟩) n c) (hl : P.rules.length = n) (hm : m ≤ n) : BentQ w (V.setCell ⟨gp, 4, none⟩ (.slice (some ⟨g, o, none⟩) m c)) gp gz := by
  obtain ⟨s, ⟨_, _, _, _, e1⟩, hb, hz, hzp, bz, bp, hr, hwd, hrd⟩ := polE_of h hwd
  have hlen := len_cut hl hm
  rw [hR] at e1
  injection e1 with e1 e2 e3
  rw [e1, e3]
  refine ⟨R, P, s, { P with rules := P.rules.take m }, hb.setCell (p := ⟨gp, 4, none⟩) (by show w.heap.size ≤ gp; omega) _, hz, hzp, bz.far (p := ⟨gp, 4, none⟩) (by show gz ≠ gp; omega) _, ?_, hr.setZ bp 4 _, hwd.cut_r m, fun V' h' => ?_⟩
  · have h1 := Blk.set_ bp 4 (.slice s.Ar m s.cr)
    show Blk _ gp _ #[_, _, _, _, .slice s.Ar (P.rules.take m).length s.cr]
    rw [hlen]
    simpa using h1
  · obtain ⟨r1, r2, r3, r4, r5⟩ := hrd V' h'
    refine ⟨r1, r2, r3, r4, ?_⟩
    show RdR V' _ s.Ar (P.rules.take m).length _
    rw [hlen]
    exact rdR_cut r5 (by omega) (flat_take ruleV P.rules m)
/-- How long the slice is that lies there. -/
def lenAt (w : World) (g i : Nat) : Nat := match w.cell? ⟨g, i, none⟩ with
  | some (.slice _ n _) => n
  | _ => 0
theorem lenAt_of {w : World} {g i n c : Nat} {A : Option Addr} (h : w.cell? ⟨g, i, none⟩ = some (.slice A n c)) : lenAt w g i = n := by
  unfold lenAt
  rw [h]
/-- What a round that appends the row's first reads: the policy's cells, the first's cells. -/
def FstS (gp : Nat) (R : Row5) (g o : Nat) (vs : List Value) (V : World) : Prop := PolC V gp R ∧ g < V.heap.size ∧ ∀ (j : Nat) u, vs[j]? = some u → V.cell? ⟨g, o + j, none⟩ = some u
theorem FstS.drew {gp g o : Nat} {R : Row5} {vs : List Value} {V : World} (h : FstS gp R g o vs V) : FstS gp R g o vs V.drew := h
theorem FstS.alloc {gp g o : Nat} {R : Row5} {vs : List Value} {V : World} (h : FstS gp R g o vs V) (ob : Obj) : FstS gp R g o vs (V.alloc ob) := by
  obtain ⟨⟨⟨hl, h0, h1, h2, h3, h4⟩, hf⟩, hg, hc⟩ := h
  have hb := bel_alloc (Below.refl V.heap.size V) ob
  refine ⟨⟨⟨Nat.lt_of_lt_of_le hl hb.size, (hb.cell (p := ⟨gp, 0, none⟩) hl).trans h0, (hb.cell (p := ⟨gp, 1, none⟩) hl).trans h1, (hb.cell (p := ⟨gp, 2, none⟩) hl).trans h2, (hb.cell (p := ⟨gp, 3, none⟩) hl).trans h3, (hb.cell (p := ⟨gp, 4, none⟩) hl).trans h4⟩, fun k => ?_⟩, Nat.lt_of_lt_of_le hg hb.size, fun j u hu => (hb.cell (p := ⟨g, o + j, none⟩) hg).trans (hc j u hu)⟩
  have := hf k
  unfold World.frozen? at this ⊢
  rw [hb.block gp hl]
  exact this
theorem fst_r {w0 w : World} {gp gz g o c : Nat} {R : Row5} {P : PolP} {a : RuleP} (h : PolW w0 w gp gz R P) (ho : 0 = o) (hR : R.r = .slice (some ⟨g, o, none⟩) P.rules.length c) (ha : P.rules[0]? = some a) : FstS gp R g o (ruleV a) w := by
  obtain ⟨hl, _, hc, _⟩ := h.cell_r ho hR
  refine ⟨h.cells, hl, fun j u hu => hc j u ?_⟩
  have hj := (List.getElem?_eq_some_iff.1 hu).1
  rw [len_rule] at hj
  have := flat_get ruleV 12 len_rule P.rules 0 j a ha hj
  rw [Nat.zero_mul, Nat.zero_add] at this
  rw [this]
  exact hu
theorem fst_h {w0 w : World} {gp gz g o c : Nat} {R : Row5} {P : PolP} {a : WhoP} (h : PolW w0 w gp gz R P) (ho : 0 = o) (hR : R.h = .slice (some ⟨g, o, none⟩) P.who.length c) (ha : P.who[0]? = some a) : FstS gp R g o (whoV a) w := by
  obtain ⟨hl, _, hc, _⟩ := h.cell_h ho hR
  refine ⟨h.cells, hl, fun j u hu => hc j u ?_⟩
  have hj := (List.getElem?_eq_some_iff.1 hu).1
  rw [len_who] at hj
  have := flat_get whoV 3 len_who P.who 0 j a ha hj
  rw [Nat.zero_mul, Nat.zero_add] at this
  rw [this]
  exact hu
theorem app_r {w0 w : World} {gp gz g o c gk : Nat} {R : Row5} {P : PolP} {a : RuleP} (h : PolW w0 w gp gz R P) (ho : 0 = o) (hR : R.r = .slice (some ⟨g, o, none⟩) P.rules.length c) (ha : P.rules[0]? = some a) (hk : Blk w gk 51 (ruleV a).toArray) (hn : P.rules.length + 1 ≤ 1000000) :
    ∃ g' o' c' w', 0 = o' ∧ (Builtin.append_ #[26, 26] 26 #[.slice (some ⟨g, o, none⟩) P.rules.length c, .slice (some ⟨gk, 0, none⟩) 1 1]).run Try.prog w = .ok (.slice (some ⟨g', o', none⟩) (P.rules.length + 1) c') w' ∧ FstS gp R g o (ruleV a) w' ∧
      PolW w0 (w'.setCell ⟨gp, 4, none⟩ (.slice (some ⟨g', o', none⟩) (P.rules.length + 1) c')) gp gz { R with r := .slice (some ⟨g', o', none⟩) (P.rules.length + 1) c' } { P with rules := P.rules ++ [a] } := by
  have hf := fst_r h ho hR ha
  have h1 := h.own_r
  rw [hR] at h1
  subst ho
  obtain ⟨g', c', w', hr, how, hg, hsz, hcl⟩ := app_first w Try.underlying26 Try.ruleI rfl (by decide) (by decide) h1 ⟨gk, 0, none⟩ 1 1 (ruleV a) rfl (fun j u hu => by rw [add_at, Nat.zero_add, hk.cell j, List.getElem?_toArray]; exact hu) (ruleV_ones a) hn h.bel.size 26
  have hg2 : w.grownBy w' R.r.ownBlock := by rw [hR]; exact hg
  refine ⟨g', 0, c', w', rfl, hr, ⟨h.blk_r hg2, Nat.lt_of_lt_of_le hf.2.1 hsz, fun j u hu => ?_⟩, ?_⟩
  · rw [Nat.zero_add]
    refine hcl j u ?_
    have hj := (List.getElem?_eq_some_iff.1 hu).1
    rw [len_rule] at hj
    have := flat_get ruleV 12 len_rule P.rules 0 j a ha hj
    rw [Nat.zero_mul, Nat.zero_add] at this
    rw [this]
    exact hu
  · exact h.put_r hg2 (l' := P.rules ++ [a]) (k := P.rules.length + 1) (by rw [flat_snoc]; exact how) (by simp)
theorem app_h {w0 w : World} {gp gz g o c gk : Nat} {R : Row5} {P : PolP} {a : WhoP} (h : PolW w0 w gp gz R P) (ho : 0 = o) (hR : R.h = .slice (some ⟨g, o, none⟩) P.who.length c) (ha : P.who[0]? = some a) (hk : Blk w gk 46 (whoV a).toArray) (hn : P.who.length + 1 ≤ 1000000) :
    ∃ g' o' c' w', 0 = o' ∧ (Builtin.append_ #[25, 25] 25 #[.slice (some ⟨g, o, none⟩) P.who.length c, .slice (some ⟨gk, 0, none⟩) 1 1]).run Try.prog w = .ok (.slice (some ⟨g', o', none⟩) (P.who.length + 1) c') w' ∧ FstS gp R g o (whoV a) w' ∧
      PolW w0 (w'.setCell ⟨gp, 2, none⟩ (.slice (some ⟨g', o', none⟩) (P.who.length + 1) c')) gp gz { R with h := .slice (some ⟨g', o', none⟩) (P.who.length + 1) c' } { P with who := P.who ++ [a] } := by
  have hf := fst_h h ho hR ha
  have h1 := h.own_h
  rw [hR] at h1
  subst ho
  obtain ⟨g', c', w', hr, how, hg, hsz, hcl⟩ := app_first w Try.underlying25 Try.whoI rfl (by decide) (by decide) h1 ⟨gk, 0, none⟩ 1 1 (whoV a) rfl (fun j u hu => by rw [add_at, Nat.zero_add, hk.cell j, List.getElem?_toArray]; exact hu) (whoV_ones a) hn h.bel.size 25
  have hg2 : w.grownBy w' R.h.ownBlock := by rw [hR]; exact hg
  refine ⟨g', 0, c', w', rfl, hr, ⟨h.blk_h hg2, Nat.lt_of_lt_of_le hf.2.1 hsz, fun j u hu => ?_⟩, ?_⟩
  · rw [Nat.zero_add]
    refine hcl j u ?_
    have hj := (List.getElem?_eq_some_iff.1 hu).1
    rw [len_who] at hj
    have := flat_get whoV 3 len_who P.who 0 j a ha hj
    rw [Nat.zero_mul, Nat.zero_add] at this
    rw [this]
    exact hu
  · exact h.put_h hg2 (l' := P.who ++ [a]) (k := P.who.length + 1) (by rw [flat_snoc]; exact how) (by simp)
set_option maxRecDepth 100000 in
theorem lit_rule {X : World} {o : Oper} {a : Act} {t : Operand} (r : RuleP) (ho : o.op = .buildSlice 26 1 #[(0, t)]) (ha : a.eval t = .agg #[.int .i64 r.tag, .int .i64 r.role, .int .i64 r.verb, .int .i64 r.ent, .int .i64 r.grp, .int .i64 r.line, .bool r.neg, .int .u64 (r.c0 : Int), .int .u64 (r.c1 : Int), .int .i64 r.sc, .int .u64 (r.toS : Int), .int .i64 r.toL]) :
    (execOp a.eval o).run Try.prog X = .ok (.value (.slice (some ⟨X.heap.size, 0, none⟩) 1 1)) (X.alloc (.cells (ruleV r).toArray 51)) := by
  obtain ⟨t1, t2, t3, t4, t5, t6, t7, t8, t9, ta, tb, tc⟩ := r
  unfold ruleV
  dsimp only at ha ⊢
  generalize ((t8 : Nat) : Int) = u8 at ha ⊢
  generalize ((t9 : Nat) : Int) = u9 at ha ⊢
  generalize ((tb : Nat) : Int) = ub at ha ⊢
  unfold execOp
  rw [ho]
  generalize hv : a.eval = ev at ha ⊢
  simp [go_sem, ha]
set_option maxRecDepth 100000 in
theorem lit_who {X : World} {o : Oper} {a : Act} {t : Operand} (x : WhoP) (ho : o.op = .buildSlice 25 1 #[(0, t)]) (ha : a.eval t = .agg #[.int .u64 (x.set : Int), .int .i64 x.lv, .int .u64 (x.ro : Int)]) :
    (execOp a.eval o).run Try.prog X = .ok (.value (.slice (some ⟨X.heap.size, 0, none⟩) 1 1)) (X.alloc (.cells (whoV x).toArray 46)) := by
  obtain ⟨t1, t2, t3⟩ := x
  unfold whoV
  dsimp only at ha ⊢
  generalize ((t1 : Nat) : Int) = u1 at ha ⊢
  generalize ((t3 : Nat) : Int) = u3 at ha ⊢
  unfold execOp
  rw [ho]
  generalize hv : a.eval = ev at ha ⊢
  simp [go_sem, ha]
theorem own_cap {w : World} {B E n c size : Nat} {A : Option Addr} {xs : List Value} (h : w.ownsRow B E size (.slice A n c) n xs) : n ≤ c := by
  rcases h.2 with ⟨e, _⟩ | ⟨g, cap, cur, e, _, _, hc, _⟩
  · injection e with _ e1 _
    omega
  · injection e with _ _ e2
    omega
theorem set_at {α : Type} {l : List α} {k : Nat} {x : α} (h : l[k]? = some x) (y : α) : (l.set k y)[k]? = some y := List.getElem?_set_self (List.getElem?_eq_some_iff.1 h).1
theorem BentQ.drew {w V : World} {gp gz : Nat} (h : BentQ w V gp gz) : BentQ w V.drew gp gz := by
  obtain ⟨R0, P0, s, P, hb, h1, h2, h3, h4, h5, h6, h7⟩ := h
  exact ⟨R0, P0, s, P, hb.drew, h1, h2, h3.drew, Blk.drew h4, h5.below (Below.refl V.heap.size V).drew, h6, h7⟩
def Growr (w : World) (gp gz M : Nat) (wr : World) : Prop := ∃ (R : Row5) (P : PolP) (g o c : Nat), PolW w wr gp gz R P ∧ PolWd P ∧ 0 = o ∧ R.r = .slice (some ⟨g, o, none⟩) P.rules.length c ∧ 1 ≤ P.rules.length ∧ P.rules.length ≤ M
def Growh (w : World) (gp gz M : Nat) (wr : World) : Prop := ∃ (R : Row5) (P : PolP) (g o c : Nat), PolW w wr gp gz R P ∧ PolWd P ∧ 0 = o ∧ R.h = .slice (some ⟨g, o, none⟩) P.who.length c ∧ 1 ≤ P.who.length ∧ P.who.length ≤ M
def Growg (w : World) (gp gz M : Nat) (wr : World) : Prop := ∃ (R : Row5) (P : PolP) (g o c : Nat), PolW w wr gp gz R P ∧ PolWd P ∧ 0 = o ∧ R.g = .slice (some ⟨g, o, none⟩) P.grp.length c ∧ 1 ≤ P.grp.length ∧ P.grp.length ≤ M
theorem quo7 {x : Int} (h : -9223372036854775808 ≤ x ∧ x ≤ 9223372036854775807) : IntKind.i64.wrap (x.tdiv 7) = x.tdiv 7 := by
  have h1 : -9223372036854775808 ≤ x.tdiv 7 ∧ x.tdiv 7 ≤ 9223372036854775807 := by
    rcases Int.le_total 0 x with h0 | h0
    · rw [Int.tdiv_eq_ediv_of_nonneg h0]; omega
    · obtain ⟨y, rfl⟩ : ∃ y, x = -y := ⟨-x, by omega⟩
      rw [Int.neg_tdiv, Int.tdiv_eq_ediv_of_nonneg (by omega)]; omega
  rw [IntKind.wrap_i64]
  omega
end Go.Proofs.Ytakofbkbbmpfeaa

namespace Go.Proofs.Ytakofbkbbmpfeaa
open Go.RowKit
theorem wrapU (n : Int) : ∃ u : Nat, IntKind.u64.wrap n = (u : Int) ∧ u < 18446744073709551616 := ⟨(IntKind.u64.wrap n).toNat, by rw [IntKind.wrap_u64]; omega, by rw [IntKind.wrap_u64]; omega⟩
def LabAny (w : World) (e : Ending) (w' : World) : Prop := ∃ (a : Nat) (u : Int), a < 18446744073709551616 ∧ e = .returned (.agg #[.int .u64 (a : Int), .int .i64 u]) ∧ Below w.heap.size w w'
set_option maxRecDepth 100000 in
set_option maxHeartbeats 3200000 in
theorem handLab_c (n v : Int) (w : World) : Calls Try.prog 6 #[.int .i64 n, .int .i64 v] w (LabAny w) := by
  obtain ⟨gz, hgz⟩ : ∃ g, w.heap.size = g := ⟨_, rfl⟩
  obtain ⟨W, hW⟩ : ∃ V, w.alloc (.cells #[.int .u64 0, .int .i64 0] 33) = V := ⟨_, rfl⟩
  have HB := Lib.hid (show Below w.heap.size w W from by rw [← hW]; exact bel_alloc (Below.refl _ _) _)
  have HZ := Lib.hid (show Blk W gz 33 #[.int .u64 0, .int .i64 0] from by rw [← hW, ← hgz]; exact Blk.new _ _ _)
  have hgw : w.heap.size ≤ gz := by omega
  have q0 : W.cell? ⟨gz, 0, none⟩ = some (.int .u64 0) := (HZ.out.cell 0).trans rfl
  have q1 : W.cell? ⟨gz, 1, none⟩ = some (.int .i64 0) := (HZ.out.cell 1).trans rfl
  have ql := HZ.out.lt
  have f0 := HZ.out.frozen 0
  have f1 := HZ.out.frozen 1
  obtain ⟨x, hx, hx64⟩ := wrapU n
  go_enter Try.func6, Try.ntmps6
  go_wp2_with fail
  (with_reducible refine (pickB v 12 _ (by omega) (by omega)).mono ?_)
  rintro e w' ⟨q, hq, rfl, rfl⟩
  clear hW
  rcases (show q = 10 ∨ q = 11 ∨ (q ≠ 10 ∧ q ≠ 11) by omega) with rfl | rfl | ⟨h1, h2⟩
  · skip
    go_wp2
    obtain ⟨W5, hW5⟩ : ∃ V, (W.setCell ⟨gz, 0, none⟩ (.int .u64 (x : Int))).setCell ⟨gz, 1, none⟩ (.int .i64 v) = V := ⟨_, rfl⟩
    have hQ5 : Blk W5 gz 33 #[.int .u64 (x : Int), .int .i64 v] := by rw [← hW5]; have h := (HZ.out.set_ 0 (.int .u64 (x : Int))).set_ 1 (.int .i64 v); simpa using h
    have hB5 : Below w.heap.size w W5 := by rw [← hW5]; exact (HB.out.setCell (p := ⟨gz, 0, none⟩) hgw _).setCell (p := ⟨gz, 1, none⟩) hgw _
    rw [hW5]
    have r0 : W5.cell? ⟨gz, 0, none⟩ = some (.int .u64 (x : Int)) := (hQ5.cell 0).trans rfl
    have r1 : W5.cell? ⟨gz, 1, none⟩ = some (.int .i64 v) := (hQ5.cell 1).trans rfl
    exact bodyPost_ret (v := .agg #[.int .u64 (x : Int), .int .i64 v]) (by simp [results, Try.results6, go_sem, r0, r1]) rfl ⟨_, _, by omega, rfl, hB5⟩
  · go_wp2_with fail
    (with_reducible refine (pickB n 512 _ (by omega) (by omega)).mono ?_)
    rintro e w' ⟨k, hk, rfl, rfl⟩
    have hk' : IntKind.u64.wrap (k : Int) = (k : Int) := wrapN (by omega)
    go_wp2_with fail
    (with_reducible refine (pickB _ 7 _ (by omega) (by omega)).mono ?_)
    rintro e w' ⟨j, hj, rfl, rfl⟩
    go_wp2
    obtain ⟨W5, hW5⟩ : ∃ V, (W.setCell ⟨gz, 0, none⟩ (.int .u64 (k : Int))).setCell ⟨gz, 1, none⟩ (.int .i64 ((j : Int) - 2)) = V := ⟨_, rfl⟩
    have hQ5 : Blk W5 gz 33 #[.int .u64 (k : Int), .int .i64 ((j : Int) - 2)] := by rw [← hW5]; have h := (HZ.out.set_ 0 (.int .u64 (k : Int))).set_ 1 (.int .i64 ((j : Int) - 2)); simpa using h
    have hB5 : Below w.heap.size w W5 := by rw [← hW5]; exact (HB.out.setCell (p := ⟨gz, 0, none⟩) hgw _).setCell (p := ⟨gz, 1, none⟩) hgw _
    rw [hW5]
    have r0 : W5.cell? ⟨gz, 0, none⟩ = some (.int .u64 (k : Int)) := (hQ5.cell 0).trans rfl
    have r1 : W5.cell? ⟨gz, 1, none⟩ = some (.int .i64 ((j : Int) - 2)) := (hQ5.cell 1).trans rfl
    exact bodyPost_ret (v := .agg #[.int .u64 (k : Int), .int .i64 ((j : Int) - 2)]) (by simp [results, Try.results6, go_sem, r0, r1]) rfl ⟨_, _, by omega, rfl, hB5⟩
  · have h1' : ¬ (q : Int) = 10 := by omega
    have h2' : ¬ (q : Int) = 11 := by omega
    go_wp2_with fail
    (with_reducible refine (pickB n 256 _ (by omega) (by omega)).mono ?_)
    rintro e w' ⟨k, hk, rfl, rfl⟩
    have hk' : IntKind.u64.wrap (k : Int) = (k : Int) := wrapN (by omega)
    go_wp2_with fail
    (with_reducible refine (pickB v 4 _ (by omega) (by omega)).mono ?_)
    rintro e w' ⟨j, hj, rfl, rfl⟩
    go_wp2
    obtain ⟨W5, hW5⟩ : ∃ V, (W.setCell ⟨gz, 0, none⟩ (.int .u64 (k : Int))).setCell ⟨gz, 1, none⟩ (.int .i64 (j : Int)) = V := ⟨_, rfl⟩
    have hQ5 : Blk W5 gz 33 #[.int .u64 (k : Int), .int .i64 (j : Int)] := by rw [← hW5]; have h := (HZ.out.set_ 0 (.int .u64 (k : Int))).set_ 1 (.int .i64 (j : Int)); simpa using h
    have hB5 : Below w.heap.size w W5 := by rw [← hW5]; exact (HB.out.setCell (p := ⟨gz, 0, none⟩) hgw _).setCell (p := ⟨gz, 1, none⟩) hgw _
    rw [hW5]
    have r0 : W5.cell? ⟨gz, 0, none⟩ = some (.int .u64 (k : Int)) := (hQ5.cell 0).trans rfl
    have r1 : W5.cell? ⟨gz, 1, none⟩ = some (.int .i64 (j : Int)) := (hQ5.cell 1).trans rfl
    exact bodyPost_ret (v := .agg #[.int .u64 (k : Int), .int .i64 (j : Int)]) (by simp [results, Try.results6, go_sem, r0, r1]) rfl ⟨_, _, by omega, rfl, hB5⟩
end Go.Proofs.Ytakofbkbbmpfeaa

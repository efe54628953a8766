/- bent: a policy with something turned. -/
import Derived.Test.YtakofbkbbmpfeaaTelA
import Derived.Test.YtakofbkbbmpfeaaHandA
import Derived.Deep.DeepCutAuto
import Derived.Deep.CutBlock
namespace Go.Proofs.Ytakofbkbbmpfeaa
open Go.RowKit
set_option maxRecDepth 100000 in
set_option maxHeartbeats 25600000 in
theorem bent_c (A : Option Addr) (n c : Nat) (xs : List Int) (bd by_ : Int) (w : World) (hL : IL w w.heap.size A n c xs) (hn : n ≤ 9223372036854775807) (hby : I64 by_) :
  Calls Try.prog 4 #[.slice A n c, .int .i64 bd, .int .i64 by_] w (BentRet w) := by
 obtain ⟨gz, hgz⟩ : ∃ g, w.heap.size = g := ⟨_, rfl⟩
 obtain ⟨W0, hW0⟩ : ∃ V, w.alloc (.cells nil5 28) = V := ⟨_, rfl⟩
 have HB0 := Lib.hid (show Below w.heap.size w W0 from by rw [← hW0]; exact bel_alloc (Below.refl _ _) _)
 have HZ0 := Lib.hid (show Blk W0 gz 28 nil5 from by rw [← hW0, ← hgz]; exact Blk.new _ _ _)
 have HPO := Lib.hid (policy_c A n c xs W0 ((hL.below HB0.out).more HB0.out.size) hn)
 have HBY := Lib.hid hby
 have HGZ := Lib.hid hgz
 unfold nil5 at hW0
 clear hL hby
 go_enter Try.func4, Try.ntmps4
 go_wp2_with fail
 (with_reducible refine HPO.out.mono ?_)
 rintro e w1 ⟨⟨Re, Rg, Rh, Ru, Rr⟩, P, rfl, hR, hG, hb⟩
 have HWD := Lib.hid hG.wd
 obtain ⟨hs1, hs2, hs3, hs4, hs5⟩ : (1 ≤ P.ents.length ∧ P.ents.length ≤ 8) ∧ (1 ≤ P.grp.length ∧ P.grp.length ≤ 3) ∧ (1 ≤ P.who.length ∧ P.who.length ≤ 8) ∧ (1 ≤ P.up.length ∧ P.up.length ≤ 1000) ∧ (7 ≤ P.rules.length ∧ P.rules.length ≤ 13) := by
  obtain ⟨N, h2, h4, ⟨hn, he⟩, ⟨hg, hg1, hg3⟩, ⟨hu, hu2⟩, ⟨⟨hw, _⟩, hw2, hw4⟩, hr, hr7, hr13⟩ := hG
  omega
 have hR1 := hR.1
 have hR2 := hR.2.1
 have hR3 := hR.2.2.1
 have hR4 := hR.2.2.2.1
 have hR5 := hR.2.2.2.2
 dsimp only at hR1 hR2 hR3 hR4 hR5
 obtain ⟨g1, o1, c1, ho1, rfl, hc1⟩ := own_ato hR1 (by omega)
 obtain ⟨g2, o2, c2, ho2, rfl, hc2⟩ := own_ato hR2 (by omega)
 obtain ⟨g3, o3, c3, ho3, rfl, hc3⟩ := own_ato hR3 (by omega)
 obtain ⟨g4, o4, c4, ho4, rfl, hc4⟩ := own_ato hR4 (by omega)
 obtain ⟨g5, o5, c5, ho5, rfl, hc5⟩ := own_ato hR5 (by omega)
 clear hR1 hR2 hR3 hR4 hR5 hG
 obtain ⟨ne, hne⟩ : ∃ n, P.ents.length = n := ⟨_, rfl⟩
 obtain ⟨ng, hng⟩ : ∃ n, P.grp.length = n := ⟨_, rfl⟩
 obtain ⟨nh, hnh⟩ : ∃ n, P.who.length = n := ⟨_, rfl⟩
 obtain ⟨nu, hnu⟩ : ∃ n, P.up.length = n := ⟨_, rfl⟩
 obtain ⟨nr, hnr⟩ : ∃ n, P.rules.length = n := ⟨_, rfl⟩
 rw [hne] at hs1 hc1 hR; rw [hng] at hs2 hc2 hR; rw [hnh] at hs3 hc3 hR; rw [hnu] at hs4 hc4 hR; rw [hnr] at hs5 hc5 hR
 rw [hne, hng, hnh, hnu, hnr]
 have HNE := Lib.hid hne
 have HNG := Lib.hid hng
 have HNH := Lib.hid hnh
 have HNU := Lib.hid hnu
 have HNR := Lib.hid hnr
 have HO1 := Lib.hid ho1
 have HO2 := Lib.hid ho2
 have HO3 := Lib.hid ho3
 have HO4 := Lib.hid ho4
 have HO5 := Lib.hid ho5
 clear hne hng hnh hnu hnr ho1 ho2 ho3 ho4 ho5
 obtain ⟨gp, hgp⟩ : ∃ x, w1.heap.size = x := ⟨_, rfl⟩
 obtain ⟨W1, hW1⟩ : ∃ V, w1.alloc (.cells #[.slice (some ⟨g1, o1, none⟩) ne c1, .slice (some ⟨g2, o2, none⟩) ng c2, .slice (some ⟨g3, o3, none⟩) nh c3, .slice (some ⟨g4, o4, none⟩) nu c4, .slice (some ⟨g5, o5, none⟩) nr c5] 28) = V := ⟨_, rfl⟩
 have HP1 := Lib.hid (show PolW w W1 gp gz ⟨.slice (some ⟨g1, o1, none⟩) ne c1, .slice (some ⟨g2, o2, none⟩) ng c2, .slice (some ⟨g3, o3, none⟩) nh c3, .slice (some ⟨g4, o4, none⟩) nu c4, .slice (some ⟨g5, o5, none⟩) nr c5⟩ P from by
  rw [← hW1, ← hgp]
  have hz1 := HZ0.out.below hb HZ0.out.lt
  exact ⟨bel_alloc (HB0.out.trans (hb.mono HB0.out.size)) _, Nat.le_of_eq HGZ.out, hz1.lt, hz1.alloc _, Blk.new _ _ _, (hR.weak HB0.out.size).below (bel_alloc (Below.refl _ _) _)⟩)
 have HW1 := Lib.hid hW1
 have HGP := Lib.hid hgp
 clear hW1 hgp hR hb hW0 hgz HPO
 go_upto_region 2 with fail
 rw [HGP.out, HW1.out]
 obtain ⟨⟨l2, y0, y1, y2, y3, y4⟩, hfz⟩ := HP1.out.cells
 go_wp2_with fail
 (with_reducible refine (pickB by_ (ne : Int) _ (by omega) (by omega)).mono ?_)
 rintro e w' ⟨ke, hke, rfl, rfl⟩
 go_wp2_with fail
 (with_reducible refine (pickB by_ (nr : Int) _ (by omega) (by omega)).mono ?_)
 rintro e w' ⟨kr, hkr, rfl, rfl⟩
 go_wp2_with fail
 (with_reducible refine (pickB _ 15 _ (by omega) (by omega)).mono ?_)
 rintro e w' ⟨kv, hkv, rfl, rfl⟩
 go_wp2_with fail
 (with_reducible refine (pickB bd 40 _ (by omega) (by omega)).mono ?_)
 rintro e w' ⟨q, hq, rfl, rfl⟩
 go_upto_block 0 with fail
 clear HW1 HGP HB0 HZ0 hfz
 obtain ⟨v, hv⟩ : ∃ v, (kv : Int) - 3 = v := ⟨_, rfl⟩
 rw [hv]
 clear hv
 go_cut [] (fun wx => BentQ w wx gp gz)
 case rest =>
  as_aux_lemma =>
  clear HNE HNG HNH HNU HNR HO1 HO2 HO3 HO4 HO5 l2 y0 y1 y2 y3 y4 HP1 HWD
  obtain ⟨V, rfl⟩ : ∃ V : World, V = wc := ⟨_, rfl⟩
  obtain ⟨R0, P0, s, Q, hb, hzg, hzp, bz, bp, hr, hwd, hrd⟩ := hcut
  have HB := Lib.hid hb
  have HZ := Lib.hid bz
  have HR := Lib.hid hr
  have HRD := Lib.hid hrd
  obtain ⟨l2, y0, y1, y2, y3, y4⟩ := PolBl.cells bp
  have hz0 : V.cell? ⟨gz, 0, none⟩ = some (.slice none 0 0) := (bz.cell 0).trans rfl
  have hz1 : V.cell? ⟨gz, 1, none⟩ = some (.slice none 0 0) := (bz.cell 1).trans rfl
  have hz2 : V.cell? ⟨gz, 2, none⟩ = some (.slice none 0 0) := (bz.cell 2).trans rfl
  have hz3 : V.cell? ⟨gz, 3, none⟩ = some (.slice none 0 0) := (bz.cell 3).trans rfl
  have hz4 : V.cell? ⟨gz, 4, none⟩ = some (.slice none 0 0) := (bz.cell 4).trans rfl
  have hzl := bz.lt
  have hf0 := bz.frozen 0
  have hf1 := bz.frozen 1
  have hf2 := bz.frozen 2
  have hf3 := bz.frozen 3
  have hf4 := bz.frozen 4
  clear bz hb hr hrd bp
  go_wp2
  obtain ⟨W5, hW5⟩ : ∃ X, (((((V.setCell ⟨gz, 0, none⟩ (.slice s.Ae Q.ents.length s.ce)).setCell ⟨gz, 1, none⟩ (.slice s.Ag Q.grp.length s.cg)).setCell ⟨gz, 2, none⟩ (.slice s.Ah Q.who.length s.ch)).setCell ⟨gz, 3, none⟩ (.slice s.Au Q.up.length s.cu)).setCell ⟨gz, 4, none⟩ (.slice s.Ar Q.rules.length s.cr)) = X := ⟨_, rfl⟩
  have HQ5 := Lib.hid (show Blk W5 gz 28 #[.slice s.Ae Q.ents.length s.ce, .slice s.Ag Q.grp.length s.cg, .slice s.Ah Q.who.length s.ch, .slice s.Au Q.up.length s.cu, .slice s.Ar Q.rules.length s.cr] from by rw [← hW5]; have h := (((((HZ.out.set_ 0 (.slice s.Ae Q.ents.length s.ce)).set_ 1 (.slice s.Ag Q.grp.length s.cg)).set_ 2 (.slice s.Ah Q.who.length s.ch)).set_ 3 (.slice s.Au Q.up.length s.cu)).set_ 4 (.slice s.Ar Q.rules.length s.cr)); simpa [nil5] using h)
  have HR5 := Lib.hid (show RowsW w.heap.size W5 R0 P0 from by rw [← hW5]; exact (((((HR.out.setZ HZ.out 0 (.slice s.Ae Q.ents.length s.ce)).setZ (HZ.out.set_ 0 (.slice s.Ae Q.ents.length s.ce)) 1 (.slice s.Ag Q.grp.length s.cg)).setZ ((HZ.out.set_ 0 (.slice s.Ae Q.ents.length s.ce)).set_ 1 (.slice s.Ag Q.grp.length s.cg)) 2 (.slice s.Ah Q.who.length s.ch)).setZ (((HZ.out.set_ 0 (.slice s.Ae Q.ents.length s.ce)).set_ 1 (.slice s.Ag Q.grp.length s.cg)).set_ 2 (.slice s.Ah Q.who.length s.ch)) 3 (.slice s.Au Q.up.length s.cu)).setZ ((((HZ.out.set_ 0 (.slice s.Ae Q.ents.length s.ce)).set_ 1 (.slice s.Ag Q.grp.length s.cg)).set_ 2 (.slice s.Ah Q.who.length s.ch)).set_ 3 (.slice s.Au Q.up.length s.cu)) 4 (.slice s.Ar Q.rules.length s.cr)))
  have HB5 := Lib.hid (show Below w.heap.size w W5 from by rw [← hW5]; exact (((((HB.out.setCell (p := ⟨gz, 0, none⟩) hzg (.slice s.Ae Q.ents.length s.ce)).setCell (p := ⟨gz, 1, none⟩) hzg (.slice s.Ag Q.grp.length s.cg)).setCell (p := ⟨gz, 2, none⟩) hzg (.slice s.Ah Q.who.length s.ch)).setCell (p := ⟨gz, 3, none⟩) hzg (.slice s.Au Q.up.length s.cu)).setCell (p := ⟨gz, 4, none⟩) hzg (.slice s.Ar Q.rules.length s.cr)))
  rw [hW5]
  have hq0 : W5.cell? ⟨gz, 0, none⟩ = some (.slice s.Ae Q.ents.length s.ce) := (HQ5.out.cell 0).trans rfl
  have hq1 : W5.cell? ⟨gz, 1, none⟩ = some (.slice s.Ag Q.grp.length s.cg) := (HQ5.out.cell 1).trans rfl
  have hq2 : W5.cell? ⟨gz, 2, none⟩ = some (.slice s.Ah Q.who.length s.ch) := (HQ5.out.cell 2).trans rfl
  have hq3 : W5.cell? ⟨gz, 3, none⟩ = some (.slice s.Au Q.up.length s.cu) := (HQ5.out.cell 3).trans rfl
  have hq4 : W5.cell? ⟨gz, 4, none⟩ = some (.slice s.Ar Q.rules.length s.cr) := (HQ5.out.cell 4).trans rfl
  exact bodyPost_ret (v := .agg #[.slice s.Ae Q.ents.length s.ce, .slice s.Ag Q.grp.length s.cg, .slice s.Ah Q.who.length s.ch, .slice s.Au Q.up.length s.cu, .slice s.Ar Q.rules.length s.cr]) (by simp [results, Try.results4, go_sem, hq0, hq1, hq2, hq3, hq4]) rfl ⟨s, Q, rfl, HRD.out W5 HR5.out, hwd, HB5.out⟩
 case first =>
  rcases (show q = 0 ∨ q = 1 ∨ q = 2 ∨ q = 3 ∨ q = 4 ∨ q = 5 ∨ q = 6 ∨ q = 7 ∨ q = 8 ∨ q = 9 ∨ q = 10 ∨ q = 11 ∨ q = 12 ∨ q = 13 ∨ q = 14 ∨ q = 15 ∨ q = 16 ∨ q = 17 ∨ q = 18 ∨ q = 19 ∨ 20 ≤ q by omega) with rfl | rfl | rfl | rfl | rfl | rfl | rfl | rfl | rfl | rfl | rfl | rfl | rfl | rfl | rfl | rfl | rfl | rfl | rfl | rfl | hq20
  ·as_aux_lemma =>
   obtain ⟨a, ha⟩ := get_at (l := P.ents) (k := ke) (by rw [HNE.out]; omega)
   obtain ⟨zl, _, zc, zf⟩ := HP1.out.cell_e (g := g1) (o := o1) (c := c1) HO1.out (by rw [HNE.out])
   have z0 : W1.cell? ⟨g1, o1 + ke * 4, none⟩ = some (.int .i64 a.lv) := by have h := zc (ke * 4 + 0) _ (flat_get entV 4 len_ent P.ents ke 0 a ha (by decide)); exact h
   have zf0 := zf (o1 + ke * 4)
   clear zc zf
   go_wp2
   obtain ⟨V, hV⟩ : ∃ V, W1.setCell ⟨g1, o1 + ke * 4, none⟩ (.int .i64 v) = V := ⟨_, rfl⟩
   have hX := HP1.out.st_e (g := g1) (o := o1) (c := c1) HO1.out (by rw [HNE.out]) (k := ke) (j := 0) (i := ke * 4 + 0) (u := .int .i64 v) (a' := { a with lv := v }) ha (by decide) rfl rfl
   rw [show o1 + (ke * 4 + 0) = o1 + ke * 4 from rfl] at hX
   rw [hV] at hX ⊢
   clear hV
   go_meet
   case rel =>
    skip
    exact bentQ hX (HWD.out.st_e)
  ·as_aux_lemma =>
   obtain ⟨a, ha⟩ := get_at (l := P.ents) (k := ke) (by rw [HNE.out]; omega)
   obtain ⟨zl, _, zc, zf⟩ := HP1.out.cell_e (g := g1) (o := o1) (c := c1) HO1.out (by rw [HNE.out])
   have z0 : W1.cell? ⟨g1, o1 + ke * 4 + 1, none⟩ = some (.int .i64 a.sc) := by have h := zc (ke * 4 + 1) _ (flat_get entV 4 len_ent P.ents ke 1 a ha (by decide)); rw [← Nat.add_assoc] at h; exact h
   have zf0 := zf (o1 + ke * 4 + 1)
   clear zc zf
   go_wp2
   obtain ⟨V, hV⟩ : ∃ V, W1.setCell ⟨g1, o1 + ke * 4 + 1, none⟩ (.int .i64 v) = V := ⟨_, rfl⟩
   have hX := HP1.out.st_e (g := g1) (o := o1) (c := c1) HO1.out (by rw [HNE.out]) (k := ke) (j := 1) (i := ke * 4 + 1) (u := .int .i64 v) (a' := { a with sc := v }) ha (by decide) rfl rfl
   rw [← Nat.add_assoc] at hX
   rw [hV] at hX ⊢
   clear hV
   go_meet
   case rel =>
    skip
    exact bentQ hX (HWD.out.st_e)
  ·as_aux_lemma =>
   obtain ⟨a, ha⟩ := get_at (l := P.ents) (k := ke) (by rw [HNE.out]; omega)
   obtain ⟨zl, _, zc, zf⟩ := HP1.out.cell_e (g := g1) (o := o1) (c := c1) HO1.out (by rw [HNE.out])
   have z0 : W1.cell? ⟨g1, o1 + ke * 4 + 2, none⟩ = some (.int .i64 a.pa) := by have h := zc (ke * 4 + 2) _ (flat_get entV 4 len_ent P.ents ke 2 a ha (by decide)); rw [← Nat.add_assoc] at h; exact h
   have zf0 := zf (o1 + ke * 4 + 2)
   clear zc zf
   go_wp2
   obtain ⟨V, hV⟩ : ∃ V, W1.setCell ⟨g1, o1 + ke * 4 + 2, none⟩ (.int .i64 v) = V := ⟨_, rfl⟩
   have hX := HP1.out.st_e (g := g1) (o := o1) (c := c1) HO1.out (by rw [HNE.out]) (k := ke) (j := 2) (i := ke * 4 + 2) (u := .int .i64 v) (a' := { a with pa := v }) ha (by decide) rfl rfl
   rw [← Nat.add_assoc] at hX
   rw [hV] at hX ⊢
   clear hV
   go_meet
   case rel =>
    skip
    exact bentQ hX (HWD.out.st_e)
  ·as_aux_lemma =>
   obtain ⟨a, ha⟩ := get_at (l := P.ents) (k := ke) (by rw [HNE.out]; omega)
   obtain ⟨zl, _, zc, zf⟩ := HP1.out.cell_e (g := g1) (o := o1) (c := c1) HO1.out (by rw [HNE.out])
   have z0 : W1.cell? ⟨g1, o1 + ke * 4 + 3, none⟩ = some (.int .i64 a.sh) := by have h := zc (ke * 4 + 3) _ (flat_get entV 4 len_ent P.ents ke 3 a ha (by decide)); rw [← Nat.add_assoc] at h; exact h
   have zf0 := zf (o1 + ke * 4 + 3)
   clear zc zf
   go_wp2
   obtain ⟨V, hV⟩ : ∃ V, W1.setCell ⟨g1, o1 + ke * 4 + 3, none⟩ (.int .i64 by_) = V := ⟨_, rfl⟩
   have hX := HP1.out.st_e (g := g1) (o := o1) (c := c1) HO1.out (by rw [HNE.out]) (k := ke) (j := 3) (i := ke * 4 + 3) (u := .int .i64 by_) (a' := { a with sh := by_ }) ha (by decide) rfl rfl
   rw [← Nat.add_assoc] at hX
   rw [hV] at hX ⊢
   clear hV
   go_meet
   case rel =>
    skip
    exact bentQ hX (HWD.out.st_e)
  ·as_aux_lemma =>
   obtain ⟨m, hm, hm'⟩ := pick_n by_ 40 (by omega)
   have HKm := Lib.hid (fun V : World => pick_d by_ 40 (m : Int) V (by omega) (by omega) hm)
   clear hm
   have hmw : IntKind.u64.wrap (m : Int) = (m : Int) := wrapN (by omega)
   have hng0 : 0 < ng := by omega
   obtain ⟨a, ha⟩ := get_at (l := P.grp) (k := 0) (by rw [HNG.out]; omega)
   obtain ⟨zl, _, zc, zf⟩ := HP1.out.cell_g (g := g2) (o := o2) (c := c2) HO2.out (by rw [HNG.out])
   have z0 : W1.cell? ⟨g2, o2, none⟩ = some (uV a) := zc 0 _ (by rw [List.getElem?_map, ha]; rfl)
   have zf0 := zf o2
   clear zc zf
   go_upto_region 15 with fail
   refine wp_region_ordz (S := fun V => Below W1.heap.size W1 V) (z := 6) (by kernel_rfl) ?_
   refine ordz_take (v := ?_) (i := 0) (fuel := 6) (by simp; rfl) (by kernel_rfl) (by kernel_rfl) (by kernel_rfl) (by kernel_rfl) (Or.inl ⟨by rfl, fun w' hSw => ?_⟩) (Below.refl W1.heap.size W1).drew ?_
   rotate_left
   ·go_simp
    all_goals with_reducible rfl
   simp only [Act.put, List.setIfInBounds_toArray, List.set_cons_zero, List.set_cons_succ]
   refine ordz_take (v := ?_) (i := 1) (fuel := 5) (by simp; rfl) (by kernel_rfl) (by kernel_rfl) (by kernel_rfl) (by kernel_rfl) (Or.inl ⟨by rfl, fun w' hSw => ?_⟩) (Below.refl W1.heap.size W1).drew ?_
   rotate_left
   ·have hPC := (HP1.out.below hSw).cells.1
    obtain ⟨l2, y0, y1, y2, y3, y4⟩ := hPC
    go_simp
    all_goals with_reducible rfl
   simp only [Act.put, List.setIfInBounds_toArray, List.set_cons_zero, List.set_cons_succ]
   refine ordz_take (v := ?_) (i := 2) (fuel := 4) (by simp; rfl) (by kernel_rfl) (by kernel_rfl) (by kernel_rfl) (by kernel_rfl) (Or.inl ⟨by rfl, fun w' hSw => ?_⟩) (Below.refl W1.heap.size W1).drew ?_
   rotate_left
   ·go_simp
    all_goals with_reducible rfl
   simp only [Act.put, List.setIfInBounds_toArray, List.set_cons_zero, List.set_cons_succ]
   refine ordc_take (v := ?_) (i := 3) (fuel := 3) (by simp; rfl) (by kernel_rfl) (by kernel_rfl) (by kernel_rfl) (by kernel_rfl) ⟨by rfl, 5, #[.int .i64 by_, .int .i64 40], fun w' hSw => ⟨?_, ?_⟩⟩ (Below.refl W1.heap.size W1).drew ?_
   rotate_left
   ·go_simp
    all_goals with_reducible rfl
   ·exact HKm.out w'
   simp only [Act.put, List.setIfInBounds_toArray, List.set_cons_zero, List.set_cons_succ]
   refine ordz_take (v := ?_) (i := 4) (fuel := 2) (by simp; rfl) (by kernel_rfl) (by kernel_rfl) (by kernel_rfl) (by kernel_rfl) (Or.inl ⟨by rfl, fun w' hSw => ?_⟩) (Below.refl W1.heap.size W1).drew ?_
   rotate_left
   ·go_simp
    all_goals with_reducible rfl
   simp only [Act.put, List.setIfInBounds_toArray, List.set_cons_zero, List.set_cons_succ]
   refine ordz_take (v := ?_) (i := 5) (fuel := 1) (by simp; rfl) (by kernel_rfl) (by kernel_rfl) (by kernel_rfl) (by kernel_rfl) (Or.inl ⟨by rfl, fun w' hSw => ?_⟩) (Below.refl W1.heap.size W1).drew ?_
   rotate_left
   ·go_simp
    all_goals with_reducible rfl
   simp only [Act.put, List.setIfInBounds_toArray, List.set_cons_zero, List.set_cons_succ]
   refine ordz_skip (w' := (W1.setCell ⟨g2, o2, none⟩ (.int .u64 (m : Int))).drew) (i := 6) (fuel := 0) (by simp; rfl) (by kernel_rfl) (by rfl) (by rfl) ?_ (.inl rfl) ?_
   ·go_simp
    all_goals with_reducible rfl
   refine ordz_done (by kernel_rfl) ?_ _
   obtain ⟨V, hV⟩ : ∃ V, (W1.setCell ⟨g2, o2, none⟩ (.int .u64 (m : Int))).drew = V := ⟨_, rfl⟩
   have hX := (HP1.out.st_g (g := g2) (o := o2) (c := c2) HO2.out (by rw [HNG.out]) (k := 0) (i := 0) (u := .int .u64 (m : Int)) (a' := m) rfl rfl).drewN 1
   rw [show o2 + 0 = o2 from rfl] at hX
   have hY := bentQ hX (HWD.out.st_g (by omega))
   have hQ : BentQ w V gp gz := by rw [← hV]; exact hY
   rw [hV]
   clear hV hX hY
   go_wp2
   go_meet
   case rel => exact hQ
  ·as_aux_lemma =>
   have hnh0 : 0 < nh := by omega
   obtain ⟨a, ha⟩ := get_at (l := P.who) (k := 0) (by rw [HNH.out]; omega)
   go_upto_region 17 with fail
   refine wp_region_ordz (S := fun V => Below W1.heap.size W1 V) (z := 7) (by kernel_rfl) ?_
   refine ordz_take (v := ?_) (i := 0) (fuel := 7) (by simp; rfl) (by kernel_rfl) (by kernel_rfl) (by kernel_rfl) (by kernel_rfl) (Or.inl ⟨by rfl, fun w' hSw => ?_⟩) (Below.refl W1.heap.size W1).drew ?_
   rotate_left
   ·go_simp
    all_goals with_reducible rfl
   simp only [Act.put, List.setIfInBounds_toArray, List.set_cons_zero, List.set_cons_succ]
   refine ordz_take (v := ?_) (i := 1) (fuel := 6) (by simp; rfl) (by kernel_rfl) (by kernel_rfl) (by kernel_rfl) (by kernel_rfl) (Or.inl ⟨by rfl, fun w' hSw => ?_⟩) (Below.refl W1.heap.size W1).drew ?_
   rotate_left
   ·have hPC := (HP1.out.below hSw).cells.1
    obtain ⟨l2, y0, y1, y2, y3, y4⟩ := hPC
    go_simp
    all_goals with_reducible rfl
   simp only [Act.put, List.setIfInBounds_toArray, List.set_cons_zero, List.set_cons_succ]
   refine ordz_take (v := ?_) (i := 2) (fuel := 5) (by simp; rfl) (by kernel_rfl) (by kernel_rfl) (by kernel_rfl) (by kernel_rfl) (Or.inl ⟨by rfl, fun w' hSw => ?_⟩) (Below.refl W1.heap.size W1).drew ?_
   rotate_left
   ·go_simp
    all_goals with_reducible rfl
   simp only [Act.put, List.setIfInBounds_toArray, List.set_cons_zero, List.set_cons_succ]
   refine ordz_take (v := ?_) (i := 3) (fuel := 4) (by simp; rfl) (by kernel_rfl) (by kernel_rfl) (by kernel_rfl) (by kernel_rfl) (Or.inl ⟨by rfl, fun w' hSw => ?_⟩) (Below.refl W1.heap.size W1).drew ?_
   rotate_left
   ·go_simp
    all_goals with_reducible rfl
   simp only [Act.put, List.setIfInBounds_toArray, List.set_cons_zero, List.set_cons_succ]
   refine ordz_call (f := 6) (args := #[.int .i64 by_, .int .i64 bd]) (w1 := W1.drew) (i := 4) (fuel := 3) (by simp; rfl) (by kernel_rfl) (by rfl) ?_ ?_
   ·go_simp
    all_goals with_reducible rfl
   (with_reducible refine (handLab_c by_ bd _).mono ?_)
   rintro e6 w6 ⟨la, lu, hla, rfl, hb⟩
   have HS6 := Lib.hid (show Below W1.heap.size W1 w6 from (Below.refl W1.heap.size W1).drew.trans (hb.mono (Nat.le_refl _)))
   clear hb
   refine ⟨_, rfl, .inr HS6.out, ?_⟩
   simp only [Act.put, List.setIfInBounds_toArray, List.set_cons_zero, List.set_cons_succ]
   refine ordz_only (v := ?_) (w' := w6) (i := 5) (fuel := 2) (by simp; rfl) (by kernel_rfl) (by rfl) ?_ (.inr HS6.out) ?_
   rotate_left
   ·go_simp
    all_goals with_reducible rfl
   simp only [Act.put, List.setIfInBounds_toArray, List.set_cons_zero, List.set_cons_succ]
   refine ordz_only (v := ?_) (w' := w6) (i := 6) (fuel := 1) (by simp; rfl) (by kernel_rfl) (by rfl) ?_ (.inr HS6.out) ?_
   rotate_left
   ·go_simp
    all_goals with_reducible rfl
   simp only [Act.put, List.setIfInBounds_toArray, List.set_cons_zero, List.set_cons_succ]
   have HP6 := Lib.hid (HP1.out.below HS6.out)
   obtain ⟨zl, _, zc, zf⟩ := HP6.out.cell_h (g := g3) (o := o3) (c := c3) HO3.out (by rw [HNH.out])
   have z0 : w6.cell? ⟨g3, o3, none⟩ = some (.int .u64 (a.set : Int)) := by have h := zc (0 * 3 + 0) _ (flat_get whoV 3 len_who P.who 0 0 a ha (by decide)); simpa using h
   have z1 : w6.cell? ⟨g3, o3 + 1, none⟩ = some (.int .i64 a.lv) := by have h := zc (0 * 3 + 1) _ (flat_get whoV 3 len_who P.who 0 1 a ha (by decide)); simpa using h
   have zf0 := zf o3
   have zf1 := zf (o3 + 1)
   clear zc zf
   refine ordz_skip (w' := (w6.setCell ⟨g3, o3, none⟩ (.int .u64 (la : Int))).setCell ⟨g3, o3 + 1, none⟩ (.int .i64 lu)) (i := 7) (fuel := 0) (by simp; rfl) (by kernel_rfl) (by rfl) (by rfl) ?_ (.inl rfl) ?_
   ·go_simp
    all_goals with_reducible rfl
   refine ordz_done (by kernel_rfl) ?_ _
   obtain ⟨V, hV⟩ : ∃ V, (w6.setCell ⟨g3, o3, none⟩ (.int .u64 (la : Int))).setCell ⟨g3, o3 + 1, none⟩ (.int .i64 lu) = V := ⟨_, rfl⟩
   have hX1 := HP6.out.st_h (g := g3) (o := o3) (c := c3) HO3.out (by rw [HNH.out]) (k := 0) (j := 0) (i := 0 * 3 + 0) (u := .int .u64 (la : Int)) (a' := { a with set := la }) ha (by decide) rfl rfl
   have hX := hX1.st_h (g := g3) (o := o3) (c := c3) HO3.out (by rw [List.length_set, HNH.out]) (k := 0) (j := 1) (i := 0 * 3 + 1) (u := .int .i64 lu) (a := { a with set := la }) (a' := { a with set := la, lv := lu }) (set_at ha _) (by decide) rfl rfl
   rw [show o3 + (0 * 3 + 0) = o3 by omega, show o3 + (0 * 3 + 1) = o3 + 1 by omega] at hX
   rw [hV] at hX ⊢
   clear hV hX1 zl z0 z1 zf0 zf1
   have haw := HWD.out.2.1 _ (List.mem_of_getElem? ha)
   go_wp2
   go_meet
   case rel => exact bentQ hX ((HWD.out.st_h (k := 0) (a := { a with set := la }) ⟨hla, haw.2⟩).st_h ⟨hla, haw.2⟩)
  ·as_aux_lemma =>
   obtain ⟨x, hx, hx64⟩ := wrapU by_
   have hnh0 : 0 < nh := by omega
   obtain ⟨a, ha⟩ := get_at (l := P.who) (k := 0) (by rw [HNH.out]; omega)
   obtain ⟨zl, _, zc, zf⟩ := HP1.out.cell_h (g := g3) (o := o3) (c := c3) HO3.out (by rw [HNH.out])
   have z0 : W1.cell? ⟨g3, o3 + 2, none⟩ = some (.int .u64 (a.ro : Int)) := by have h := zc (0 * 3 + 2) _ (flat_get whoV 3 len_who P.who 0 2 a ha (by decide)); simpa using h
   have zf0 := zf (o3 + 2)
   clear zc zf
   go_wp2
   obtain ⟨V, hV⟩ : ∃ V, W1.setCell ⟨g3, o3 + 2, none⟩ (.int .u64 (x : Int)) = V := ⟨_, rfl⟩
   have hX := HP1.out.st_h (g := g3) (o := o3) (c := c3) HO3.out (by rw [HNH.out]) (k := 0) (j := 2) (i := 0 * 3 + 2) (u := .int .u64 (x : Int)) (a' := { a with ro := x }) ha (by decide) rfl rfl
   rw [show o3 + (0 * 3 + 2) = o3 + 2 by omega] at hX
   rw [hV] at hX ⊢
   clear hV
   go_meet
   case rel =>
    skip
    exact bentQ hX (HWD.out.st_h ⟨(HWD.out.2.1 _ (List.mem_of_getElem? ha)).1, hx64⟩)
  ·as_aux_lemma =>
   obtain ⟨m, hm, hm'⟩ := pick_n by_ (nu : Int) (by omega)
   have HKm := Lib.hid (fun V : World => pick_d by_ (nu : Int) (m : Int) V (by omega) (by omega) hm)
   clear hm
   obtain ⟨a, ha⟩ := get_at (l := P.up) (k := m) (by rw [HNU.out]; omega)
   obtain ⟨zl, _, zc, zf⟩ := HP1.out.cell_u (g := g4) (o := o4) (c := c4) HO4.out (by rw [HNU.out])
   have z0 : W1.cell? ⟨g4, o4 + m, none⟩ = some (zV a) := zc m _ (by rw [List.getElem?_map, ha]; rfl)
   have zf0 := zf (o4 + m)
   clear zc zf
   go_upto_region 21 with fail
   refine wp_region_ordz (S := fun V => Below W1.heap.size W1 V) (z := 9) (by kernel_rfl) ?_
   refine ordz_take (v := ?_) (i := 0) (fuel := 9) (by simp; rfl) (by kernel_rfl) (by kernel_rfl) (by kernel_rfl) (by kernel_rfl) (Or.inl ⟨by rfl, fun w' hSw => ?_⟩) (Below.refl W1.heap.size W1).drew ?_
   rotate_left
   ·go_simp
    all_goals with_reducible rfl
   simp only [Act.put, List.setIfInBounds_toArray, List.set_cons_zero, List.set_cons_succ]
   refine ordz_take (v := ?_) (i := 1) (fuel := 8) (by simp; rfl) (by kernel_rfl) (by kernel_rfl) (by kernel_rfl) (by kernel_rfl) (Or.inl ⟨by rfl, fun w' hSw => ?_⟩) (Below.refl W1.heap.size W1).drew ?_
   rotate_left
   ·have hPC := (HP1.out.below hSw).cells.1
    obtain ⟨l2, y0, y1, y2, y3, y4⟩ := hPC
    go_simp
    all_goals with_reducible rfl
   simp only [Act.put, List.setIfInBounds_toArray, List.set_cons_zero, List.set_cons_succ]
   refine ordz_take (v := ?_) (i := 2) (fuel := 7) (by simp; rfl) (by kernel_rfl) (by kernel_rfl) (by kernel_rfl) (by kernel_rfl) (Or.inl ⟨by rfl, fun w' hSw => ?_⟩) (Below.refl W1.heap.size W1).drew ?_
   rotate_left
   ·go_simp
    all_goals with_reducible rfl
   simp only [Act.put, List.setIfInBounds_toArray, List.set_cons_zero, List.set_cons_succ]
   refine ordz_take (v := ?_) (i := 3) (fuel := 6) (by simp; rfl) (by kernel_rfl) (by kernel_rfl) (by kernel_rfl) (by kernel_rfl) (Or.inl ⟨by rfl, fun w' hSw => ?_⟩) (Below.refl W1.heap.size W1).drew ?_
   rotate_left
   ·go_simp
    all_goals with_reducible rfl
   simp only [Act.put, List.setIfInBounds_toArray, List.set_cons_zero, List.set_cons_succ]
   refine ordz_take (v := ?_) (i := 4) (fuel := 5) (by simp; rfl) (by kernel_rfl) (by kernel_rfl) (by kernel_rfl) (by kernel_rfl) (Or.inl ⟨by rfl, fun w' hSw => ?_⟩) (Below.refl W1.heap.size W1).drew ?_
   rotate_left
   ·have hPC := (HP1.out.below hSw).cells.1
    obtain ⟨l2, y0, y1, y2, y3, y4⟩ := hPC
    go_simp
    all_goals with_reducible rfl
   simp only [Act.put, List.setIfInBounds_toArray, List.set_cons_zero, List.set_cons_succ]
   refine ordz_take (v := ?_) (i := 5) (fuel := 4) (by simp; rfl) (by kernel_rfl) (by kernel_rfl) (by kernel_rfl) (by kernel_rfl) (Or.inl ⟨by rfl, fun w' hSw => ?_⟩) (Below.refl W1.heap.size W1).drew ?_
   rotate_left
   ·go_simp
    all_goals with_reducible rfl
   simp only [Act.put, List.setIfInBounds_toArray, List.set_cons_zero, List.set_cons_succ]
   refine ordc_take (v := ?_) (i := 6) (fuel := 3) (by simp; rfl) (by kernel_rfl) (by kernel_rfl) (by kernel_rfl) (by kernel_rfl) ⟨by rfl, 5, #[.int .i64 by_, .int .i64 (nu : Int)], fun w' hSw => ⟨?_, ?_⟩⟩ (Below.refl W1.heap.size W1).drew ?_
   rotate_left
   ·go_simp
    all_goals with_reducible rfl
   ·exact HKm.out w'
   simp only [Act.put, List.setIfInBounds_toArray, List.set_cons_zero, List.set_cons_succ]
   refine ordz_take (v := ?_) (i := 7) (fuel := 2) (by simp; rfl) (by kernel_rfl) (by kernel_rfl) (by kernel_rfl) (by kernel_rfl) (Or.inl ⟨by rfl, fun w' hSw => ?_⟩) (Below.refl W1.heap.size W1).drew ?_
   rotate_left
   ·go_simp
    all_goals with_reducible rfl
   simp only [Act.put, List.setIfInBounds_toArray, List.set_cons_zero, List.set_cons_succ]
   refine ordz_take (v := ?_) (i := 8) (fuel := 1) (by simp; rfl) (by kernel_rfl) (by kernel_rfl) (by kernel_rfl) (by kernel_rfl) (Or.inl ⟨by rfl, fun w' hSw => ?_⟩) (Below.refl W1.heap.size W1).drew ?_
   rotate_left
   ·go_simp
    all_goals with_reducible rfl
   simp only [Act.put, List.setIfInBounds_toArray, List.set_cons_zero, List.set_cons_succ]
   refine ordz_skip (w' := (W1.setCell ⟨g4, o4 + m, none⟩ (.int .i64 v)).drew) (i := 9) (fuel := 0) (by simp; rfl) (by kernel_rfl) (by rfl) (by rfl) ?_ (.inl rfl) ?_
   ·go_simp
    all_goals with_reducible rfl
   refine ordz_done (by kernel_rfl) ?_ _
   obtain ⟨V, hV⟩ : ∃ V, (W1.setCell ⟨g4, o4 + m, none⟩ (.int .i64 v)).drew = V := ⟨_, rfl⟩
   have hX := (HP1.out.st_u (g := g4) (o := o4) (c := c4) HO4.out (by rw [HNU.out]) (k := m) (i := m) (u := .int .i64 v) (a' := v) rfl rfl).drewN 1
   have hY := bentQ hX HWD.out.st_u
   have hQ : BentQ w V gp gz := by rw [← hV]; exact hY
   rw [hV]
   clear hV hX hY
   go_wp2
   go_meet
   case rel => exact hQ
  ·as_aux_lemma =>
   obtain ⟨a, ha⟩ := get_at (l := P.rules) (k := kr) (by rw [HNR.out]; omega)
   obtain ⟨zl, _, zc, zf⟩ := HP1.out.cell_r (g := g5) (o := o5) (c := c5) HO5.out (by rw [HNR.out])
   have z0 : W1.cell? ⟨g5, o5 + kr * 12, none⟩ = some (.int .i64 a.tag) := by have h := zc (kr * 12 + 0) _ (flat_get ruleV 12 len_rule P.rules kr 0 a ha (by decide)); exact h
   have zf0 := zf (o5 + kr * 12)
   clear zc zf
   go_wp2
   obtain ⟨V, hV⟩ : ∃ V, W1.setCell ⟨g5, o5 + kr * 12, none⟩ (.int .i64 v) = V := ⟨_, rfl⟩
   have hX := HP1.out.st_r (g := g5) (o := o5) (c := c5) HO5.out (by rw [HNR.out]) (k := kr) (j := 0) (i := kr * 12 + 0) (u := .int .i64 v) (a' := { a with tag := v }) ha (by decide) rfl rfl
   rw [show o5 + (kr * 12 + 0) = o5 + kr * 12 from rfl] at hX
   rw [hV] at hX ⊢
   clear hV
   go_meet
   case rel =>
    have haw := HWD.out.2.2.1 _ (List.mem_of_getElem? ha)
    exact bentQ hX (HWD.out.st_r haw)
  ·as_aux_lemma =>
   obtain ⟨a, ha⟩ := get_at (l := P.rules) (k := kr) (by rw [HNR.out]; omega)
   obtain ⟨zl, _, zc, zf⟩ := HP1.out.cell_r (g := g5) (o := o5) (c := c5) HO5.out (by rw [HNR.out])
   have z0 : W1.cell? ⟨g5, o5 + kr * 12 + 1, none⟩ = some (.int .i64 a.role) := by have h := zc (kr * 12 + 1) _ (flat_get ruleV 12 len_rule P.rules kr 1 a ha (by decide)); rw [← Nat.add_assoc] at h; exact h
   have zf0 := zf (o5 + kr * 12 + 1)
   clear zc zf
   go_wp2
   obtain ⟨V, hV⟩ : ∃ V, W1.setCell ⟨g5, o5 + kr * 12 + 1, none⟩ (.int .i64 v) = V := ⟨_, rfl⟩
   have hX := HP1.out.st_r (g := g5) (o := o5) (c := c5) HO5.out (by rw [HNR.out]) (k := kr) (j := 1) (i := kr * 12 + 1) (u := .int .i64 v) (a' := { a with role := v }) ha (by decide) rfl rfl
   rw [← Nat.add_assoc] at hX
   rw [hV] at hX ⊢
   clear hV
   go_meet
   case rel =>
    have haw := HWD.out.2.2.1 _ (List.mem_of_getElem? ha)
    exact bentQ hX (HWD.out.st_r haw)
  ·as_aux_lemma =>
   obtain ⟨a, ha⟩ := get_at (l := P.rules) (k := kr) (by rw [HNR.out]; omega)
   obtain ⟨zl, _, zc, zf⟩ := HP1.out.cell_r (g := g5) (o := o5) (c := c5) HO5.out (by rw [HNR.out])
   have z0 : W1.cell? ⟨g5, o5 + kr * 12 + 2, none⟩ = some (.int .i64 a.verb) := by have h := zc (kr * 12 + 2) _ (flat_get ruleV 12 len_rule P.rules kr 2 a ha (by decide)); rw [← Nat.add_assoc] at h; exact h
   have zf0 := zf (o5 + kr * 12 + 2)
   clear zc zf
   go_wp2
   obtain ⟨V, hV⟩ : ∃ V, W1.setCell ⟨g5, o5 + kr * 12 + 2, none⟩ (.int .i64 v) = V := ⟨_, rfl⟩
   have hX := HP1.out.st_r (g := g5) (o := o5) (c := c5) HO5.out (by rw [HNR.out]) (k := kr) (j := 2) (i := kr * 12 + 2) (u := .int .i64 v) (a' := { a with verb := v }) ha (by decide) rfl rfl
   rw [← Nat.add_assoc] at hX
   rw [hV] at hX ⊢
   clear hV
   go_meet
   case rel =>
    have haw := HWD.out.2.2.1 _ (List.mem_of_getElem? ha)
    exact bentQ hX (HWD.out.st_r haw)
  ·as_aux_lemma =>
   obtain ⟨a, ha⟩ := get_at (l := P.rules) (k := kr) (by rw [HNR.out]; omega)
   obtain ⟨zl, _, zc, zf⟩ := HP1.out.cell_r (g := g5) (o := o5) (c := c5) HO5.out (by rw [HNR.out])
   have z0 : W1.cell? ⟨g5, o5 + kr * 12 + 3, none⟩ = some (.int .i64 a.ent) := by have h := zc (kr * 12 + 3) _ (flat_get ruleV 12 len_rule P.rules kr 3 a ha (by decide)); rw [← Nat.add_assoc] at h; exact h
   have zf0 := zf (o5 + kr * 12 + 3)
   clear zc zf
   go_wp2
   obtain ⟨V, hV⟩ : ∃ V, W1.setCell ⟨g5, o5 + kr * 12 + 3, none⟩ (.int .i64 v) = V := ⟨_, rfl⟩
   have hX := HP1.out.st_r (g := g5) (o := o5) (c := c5) HO5.out (by rw [HNR.out]) (k := kr) (j := 3) (i := kr * 12 + 3) (u := .int .i64 v) (a' := { a with ent := v }) ha (by decide) rfl rfl
   rw [← Nat.add_assoc] at hX
   rw [hV] at hX ⊢
   clear hV
   go_meet
   case rel =>
    have haw := HWD.out.2.2.1 _ (List.mem_of_getElem? ha)
    exact bentQ hX (HWD.out.st_r haw)
  ·as_aux_lemma =>
   obtain ⟨a, ha⟩ := get_at (l := P.rules) (k := kr) (by rw [HNR.out]; omega)
   obtain ⟨zl, _, zc, zf⟩ := HP1.out.cell_r (g := g5) (o := o5) (c := c5) HO5.out (by rw [HNR.out])
   have z0 : W1.cell? ⟨g5, o5 + kr * 12 + 4, none⟩ = some (.int .i64 a.grp) := by have h := zc (kr * 12 + 4) _ (flat_get ruleV 12 len_rule P.rules kr 4 a ha (by decide)); rw [← Nat.add_assoc] at h; exact h
   have zf0 := zf (o5 + kr * 12 + 4)
   clear zc zf
   go_wp2
   obtain ⟨V, hV⟩ : ∃ V, W1.setCell ⟨g5, o5 + kr * 12 + 4, none⟩ (.int .i64 v) = V := ⟨_, rfl⟩
   have hX := HP1.out.st_r (g := g5) (o := o5) (c := c5) HO5.out (by rw [HNR.out]) (k := kr) (j := 4) (i := kr * 12 + 4) (u := .int .i64 v) (a' := { a with grp := v }) ha (by decide) rfl rfl
   rw [← Nat.add_assoc] at hX
   rw [hV] at hX ⊢
   clear hV
   go_meet
   case rel =>
    have haw := HWD.out.2.2.1 _ (List.mem_of_getElem? ha)
    exact bentQ hX (HWD.out.st_r haw)
  ·as_aux_lemma =>
   obtain ⟨a, ha⟩ := get_at (l := P.rules) (k := kr) (by rw [HNR.out]; omega)
   obtain ⟨zl, _, zc, zf⟩ := HP1.out.cell_r (g := g5) (o := o5) (c := c5) HO5.out (by rw [HNR.out])
   have z0 : W1.cell? ⟨g5, o5 + kr * 12 + 5, none⟩ = some (.int .i64 a.line) := by have h := zc (kr * 12 + 5) _ (flat_get ruleV 12 len_rule P.rules kr 5 a ha (by decide)); rw [← Nat.add_assoc] at h; exact h
   have zf0 := zf (o5 + kr * 12 + 5)
   clear zc zf
   go_wp2
   obtain ⟨V, hV⟩ : ∃ V, W1.setCell ⟨g5, o5 + kr * 12 + 5, none⟩ (.int .i64 v) = V := ⟨_, rfl⟩
   have hX := HP1.out.st_r (g := g5) (o := o5) (c := c5) HO5.out (by rw [HNR.out]) (k := kr) (j := 5) (i := kr * 12 + 5) (u := .int .i64 v) (a' := { a with line := v }) ha (by decide) rfl rfl
   rw [← Nat.add_assoc] at hX
   rw [hV] at hX ⊢
   clear hV
   go_meet
   case rel =>
    have haw := HWD.out.2.2.1 _ (List.mem_of_getElem? ha)
    exact bentQ hX (HWD.out.st_r haw)
  ·as_aux_lemma =>
   obtain ⟨a, ha⟩ := get_at (l := P.rules) (k := kr) (by rw [HNR.out]; omega)
   have hq7 := quo7 HBY.out
   go_upto_region 35 with fail
   refine wp_region_ordz (S := fun V => Below W1.heap.size W1 V) (z := 10) (by kernel_rfl) ?_
   refine ordz_take (v := ?_) (i := 0) (fuel := 10) (by simp; rfl) (by kernel_rfl) (by kernel_rfl) (by kernel_rfl) (by kernel_rfl) (Or.inl ⟨by rfl, fun w' hSw => ?_⟩) (Below.refl W1.heap.size W1).drew ?_
   rotate_left
   ·go_simp
    all_goals with_reducible rfl
   simp only [Act.put, List.setIfInBounds_toArray, List.set_cons_zero, List.set_cons_succ]
   refine ordz_take (v := ?_) (i := 1) (fuel := 9) (by simp; rfl) (by kernel_rfl) (by kernel_rfl) (by kernel_rfl) (by kernel_rfl) (Or.inl ⟨by rfl, fun w' hSw => ?_⟩) (Below.refl W1.heap.size W1).drew ?_
   rotate_left
   ·have hPC := (HP1.out.below hSw).cells.1
    obtain ⟨l2, y0, y1, y2, y3, y4⟩ := hPC
    go_simp
    all_goals with_reducible rfl
   simp only [Act.put, List.setIfInBounds_toArray, List.set_cons_zero, List.set_cons_succ]
   refine ordz_take (v := ?_) (i := 2) (fuel := 8) (by simp; rfl) (by kernel_rfl) (by kernel_rfl) (by kernel_rfl) (by kernel_rfl) (Or.inl ⟨by rfl, fun w' hSw => ?_⟩) (Below.refl W1.heap.size W1).drew ?_
   rotate_left
   ·go_simp
    all_goals with_reducible rfl
   simp only [Act.put, List.setIfInBounds_toArray, List.set_cons_zero, List.set_cons_succ]
   refine ordz_take (v := ?_) (i := 3) (fuel := 7) (by simp; rfl) (by kernel_rfl) (by kernel_rfl) (by kernel_rfl) (by kernel_rfl) (Or.inl ⟨by rfl, fun w' hSw => ?_⟩) (Below.refl W1.heap.size W1).drew ?_
   rotate_left
   ·go_simp
    all_goals with_reducible rfl
   simp only [Act.put, List.setIfInBounds_toArray, List.set_cons_zero, List.set_cons_succ]
   refine ordz_take (v := ?_) (i := 4) (fuel := 6) (by simp; rfl) (by kernel_rfl) (by kernel_rfl) (by kernel_rfl) (by kernel_rfl) (Or.inl ⟨by rfl, fun w' hSw => ?_⟩) (Below.refl W1.heap.size W1).drew ?_
   rotate_left
   ·go_simp
    all_goals with_reducible rfl
   simp only [Act.put, List.setIfInBounds_toArray, List.set_cons_zero, List.set_cons_succ]
   refine ordz_take (v := ?_) (i := 5) (fuel := 5) (by simp; rfl) (by kernel_rfl) (by kernel_rfl) (by kernel_rfl) (by kernel_rfl) (Or.inl ⟨by rfl, fun w' hSw => ?_⟩) (Below.refl W1.heap.size W1).drew ?_
   rotate_left
   ·go_simp
    all_goals with_reducible rfl
   simp only [Act.put, List.setIfInBounds_toArray, List.set_cons_zero, List.set_cons_succ]
   refine ordz_take (v := ?_) (i := 6) (fuel := 4) (by simp; rfl) (by kernel_rfl) (by kernel_rfl) (by kernel_rfl) (by kernel_rfl) (Or.inl ⟨by rfl, fun w' hSw => ?_⟩) (Below.refl W1.heap.size W1).drew ?_
   rotate_left
   ·go_simp
    all_goals with_reducible rfl
   simp only [Act.put, List.setIfInBounds_toArray, List.set_cons_zero, List.set_cons_succ]
   refine ordz_call (f := 21) (args := #[.int .i64 by_, .int .i64 bd, .int .i64 (by_.tdiv 7)]) (w1 := W1.drew) (i := 7) (fuel := 3) (by simp; rfl) (by kernel_rfl) (by rfl) ?_ ?_
   ·go_simp
    all_goals with_reducible rfl
   (with_reducible refine (handDec_c by_ bd (by_.tdiv 7) _ HBY.out).mono ?_)
   rintro e6 w6 ⟨_, ⟨un, ua, ub, us, hua, hub, _, _, rfl⟩, rfl, hb⟩
   have HS6 := Lib.hid (show Below W1.heap.size W1 w6 from (Below.refl W1.heap.size W1).drew.trans (hb.mono (Nat.le_refl _)))
   clear hb
   obtain ⟨ua, rfl⟩ : ∃ x : Nat, ua = (x : Int) := ⟨ua.toNat, by unfold U64 at hua; omega⟩
   obtain ⟨ub, rfl⟩ : ∃ x : Nat, ub = (x : Int) := ⟨ub.toNat, by unfold U64 at hub; omega⟩
   refine ⟨_, rfl, .inr HS6.out, ?_⟩
   simp only [Act.put, List.setIfInBounds_toArray, List.set_cons_zero, List.set_cons_succ]
   refine ordz_only (v := ?_) (w' := w6) (i := 8) (fuel := 2) (by simp; rfl) (by kernel_rfl) (by rfl) ?_ (.inr HS6.out) ?_
   rotate_left
   ·go_simp
    all_goals with_reducible rfl
   simp only [Act.put, List.setIfInBounds_toArray, List.set_cons_zero, List.set_cons_succ]
   refine ordz_only (v := ?_) (w' := w6) (i := 9) (fuel := 1) (by simp; rfl) (by kernel_rfl) (by rfl) ?_ (.inr HS6.out) ?_
   rotate_left
   ·go_simp
    all_goals with_reducible rfl
   simp only [Act.put, List.setIfInBounds_toArray, List.set_cons_zero, List.set_cons_succ]
   have HP6 := Lib.hid (HP1.out.below HS6.out)
   obtain ⟨zl, _, zc, zf⟩ := HP6.out.cell_r (g := g5) (o := o5) (c := c5) HO5.out (by rw [HNR.out])
   have z0 : w6.cell? ⟨g5, o5 + kr * 12 + 6, none⟩ = some (.bool a.neg) := by have h := zc (kr * 12 + 6) _ (flat_get ruleV 12 len_rule P.rules kr 6 a ha (by decide)); rw [← Nat.add_assoc] at h; exact h
   have zf0 := zf (o5 + kr * 12 + 6)
   have z1 : w6.cell? ⟨g5, o5 + kr * 12 + 7, none⟩ = some (.int .u64 (a.c0 : Int)) := by have h := zc (kr * 12 + 7) _ (flat_get ruleV 12 len_rule P.rules kr 7 a ha (by decide)); rw [← Nat.add_assoc] at h; exact h
   have zf1 := zf (o5 + kr * 12 + 7)
   have z2 : w6.cell? ⟨g5, o5 + kr * 12 + 8, none⟩ = some (.int .u64 (a.c1 : Int)) := by have h := zc (kr * 12 + 8) _ (flat_get ruleV 12 len_rule P.rules kr 8 a ha (by decide)); rw [← Nat.add_assoc] at h; exact h
   have zf2 := zf (o5 + kr * 12 + 8)
   have z3 : w6.cell? ⟨g5, o5 + kr * 12 + 9, none⟩ = some (.int .i64 a.sc) := by have h := zc (kr * 12 + 9) _ (flat_get ruleV 12 len_rule P.rules kr 9 a ha (by decide)); rw [← Nat.add_assoc] at h; exact h
   have zf3 := zf (o5 + kr * 12 + 9)
   clear zc zf
   refine ordz_skip (w' := ((((w6).setCell ⟨g5, o5 + kr * 12 + 6, none⟩ (.bool un)).setCell ⟨g5, o5 + kr * 12 + 7, none⟩ (.int .u64 (ua : Int))).setCell ⟨g5, o5 + kr * 12 + 8, none⟩ (.int .u64 (ub : Int))).setCell ⟨g5, o5 + kr * 12 + 9, none⟩ (.int .i64 us)) (i := 10) (fuel := 0) (by simp; rfl) (by kernel_rfl) (by rfl) (by rfl) ?_ (.inl rfl) ?_
   ·go_simp
    all_goals with_reducible rfl
   refine ordz_done (by kernel_rfl) ?_ _
   obtain ⟨V, hV⟩ : ∃ V, ((((w6).setCell ⟨g5, o5 + kr * 12 + 6, none⟩ (.bool un)).setCell ⟨g5, o5 + kr * 12 + 7, none⟩ (.int .u64 (ua : Int))).setCell ⟨g5, o5 + kr * 12 + 8, none⟩ (.int .u64 (ub : Int))).setCell ⟨g5, o5 + kr * 12 + 9, none⟩ (.int .i64 us) = V := ⟨_, rfl⟩
   have hX1 := HP6.out.st_r (g := g5) (o := o5) (c := c5) HO5.out (by rw [HNR.out]) (k := kr) (j := 6) (i := kr * 12 + 6) (u := .bool un) (a' := { a with neg := un }) ha (by decide) rfl rfl
   rw [← Nat.add_assoc] at hX1
   have hX2 := hX1.st_r (g := g5) (o := o5) (c := c5) HO5.out (by simp only [List.length_set, HNR.out]) (k := kr) (j := 7) (i := kr * 12 + 7) (u := .int .u64 (ua : Int)) (a := { a with neg := un }) (a' := { a with neg := un, c0 := ua }) (set_at ha _) (by decide) rfl rfl
   rw [← Nat.add_assoc] at hX2
   have hX3 := hX2.st_r (g := g5) (o := o5) (c := c5) HO5.out (by simp only [List.length_set, HNR.out]) (k := kr) (j := 8) (i := kr * 12 + 8) (u := .int .u64 (ub : Int)) (a := { a with neg := un, c0 := ua }) (a' := { a with neg := un, c0 := ua, c1 := ub }) (set_at (set_at ha _) _) (by decide) rfl rfl
   rw [← Nat.add_assoc] at hX3
   have hX4 := hX3.st_r (g := g5) (o := o5) (c := c5) HO5.out (by simp only [List.length_set, HNR.out]) (k := kr) (j := 9) (i := kr * 12 + 9) (u := .int .i64 us) (a := { a with neg := un, c0 := ua, c1 := ub }) (a' := { a with neg := un, c0 := ua, c1 := ub, sc := us }) (set_at (set_at (set_at ha _) _) _) (by decide) rfl rfl
   rw [← Nat.add_assoc] at hX4
   have hX := hX4
   rw [hV] at hX ⊢
   clear hV hX1 hX2 hX3 hX4 zl z0 z1 z2 z3 zf0 zf1 zf2 zf3
   have haw := HWD.out.2.2.1 _ (List.mem_of_getElem? ha)
   have hu1 : ua < 18446744073709551616 := by unfold U64 at hua; omega
   have hu2 : ub < 18446744073709551616 := by unfold U64 at hub; omega
   go_wp2
   go_meet
   case rel => exact bentQ hX ((((HWD.out.st_r (k := kr) (a := { a with neg := un }) haw).st_r (k := kr) (a := { a with neg := un, c0 := ua }) ⟨hu1, haw.2.1, haw.2.2⟩).st_r (k := kr) (a := { a with neg := un, c0 := ua, c1 := ub }) ⟨hu1, hu2, haw.2.2⟩).st_r ⟨hu1, hu2, haw.2.2⟩)
  ·as_aux_lemma =>
   obtain ⟨a, ha⟩ := get_at (l := P.rules) (k := kr) (by rw [HNR.out]; omega)
   go_upto_region 37 with fail
   refine wp_region_ordz (S := fun V => Below W1.heap.size W1 V) (z := 8) (by kernel_rfl) ?_
   refine ordz_take (v := ?_) (i := 0) (fuel := 8) (by simp; rfl) (by kernel_rfl) (by kernel_rfl) (by kernel_rfl) (by kernel_rfl) (Or.inl ⟨by rfl, fun w' hSw => ?_⟩) (Below.refl W1.heap.size W1).drew ?_
   rotate_left
   ·go_simp
    all_goals with_reducible rfl
   simp only [Act.put, List.setIfInBounds_toArray, List.set_cons_zero, List.set_cons_succ]
   refine ordz_take (v := ?_) (i := 1) (fuel := 7) (by simp; rfl) (by kernel_rfl) (by kernel_rfl) (by kernel_rfl) (by kernel_rfl) (Or.inl ⟨by rfl, fun w' hSw => ?_⟩) (Below.refl W1.heap.size W1).drew ?_
   rotate_left
   ·have hPC := (HP1.out.below hSw).cells.1
    obtain ⟨l2, y0, y1, y2, y3, y4⟩ := hPC
    go_simp
    all_goals with_reducible rfl
   simp only [Act.put, List.setIfInBounds_toArray, List.set_cons_zero, List.set_cons_succ]
   refine ordz_take (v := ?_) (i := 2) (fuel := 6) (by simp; rfl) (by kernel_rfl) (by kernel_rfl) (by kernel_rfl) (by kernel_rfl) (Or.inl ⟨by rfl, fun w' hSw => ?_⟩) (Below.refl W1.heap.size W1).drew ?_
   rotate_left
   ·go_simp
    all_goals with_reducible rfl
   simp only [Act.put, List.setIfInBounds_toArray, List.set_cons_zero, List.set_cons_succ]
   refine ordz_take (v := ?_) (i := 3) (fuel := 5) (by simp; rfl) (by kernel_rfl) (by kernel_rfl) (by kernel_rfl) (by kernel_rfl) (Or.inl ⟨by rfl, fun w' hSw => ?_⟩) (Below.refl W1.heap.size W1).drew ?_
   rotate_left
   ·go_simp
    all_goals with_reducible rfl
   simp only [Act.put, List.setIfInBounds_toArray, List.set_cons_zero, List.set_cons_succ]
   refine ordz_take (v := ?_) (i := 4) (fuel := 4) (by simp; rfl) (by kernel_rfl) (by kernel_rfl) (by kernel_rfl) (by kernel_rfl) (Or.inl ⟨by rfl, fun w' hSw => ?_⟩) (Below.refl W1.heap.size W1).drew ?_
   rotate_left
   ·go_simp
    all_goals with_reducible rfl
   simp only [Act.put, List.setIfInBounds_toArray, List.set_cons_zero, List.set_cons_succ]
   refine ordz_call (f := 6) (args := #[.int .i64 by_, .int .i64 bd]) (w1 := W1.drew) (i := 5) (fuel := 3) (by simp; rfl) (by kernel_rfl) (by rfl) ?_ ?_
   ·go_simp
    all_goals with_reducible rfl
   (with_reducible refine (handLab_c by_ bd _).mono ?_)
   rintro e6 w6 ⟨la, lu, hla, rfl, hb⟩
   have HS6 := Lib.hid (show Below W1.heap.size W1 w6 from (Below.refl W1.heap.size W1).drew.trans (hb.mono (Nat.le_refl _)))
   clear hb
   refine ⟨_, rfl, .inr HS6.out, ?_⟩
   simp only [Act.put, List.setIfInBounds_toArray, List.set_cons_zero, List.set_cons_succ]
   refine ordz_only (v := ?_) (w' := w6) (i := 6) (fuel := 2) (by simp; rfl) (by kernel_rfl) (by rfl) ?_ (.inr HS6.out) ?_
   rotate_left
   ·go_simp
    all_goals with_reducible rfl
   simp only [Act.put, List.setIfInBounds_toArray, List.set_cons_zero, List.set_cons_succ]
   refine ordz_only (v := ?_) (w' := w6) (i := 7) (fuel := 1) (by simp; rfl) (by kernel_rfl) (by rfl) ?_ (.inr HS6.out) ?_
   rotate_left
   ·go_simp
    all_goals with_reducible rfl
   simp only [Act.put, List.setIfInBounds_toArray, List.set_cons_zero, List.set_cons_succ]
   have HP6 := Lib.hid (HP1.out.below HS6.out)
   obtain ⟨zl, _, zc, zf⟩ := HP6.out.cell_r (g := g5) (o := o5) (c := c5) HO5.out (by rw [HNR.out])
   have z0 : w6.cell? ⟨g5, o5 + kr * 12 + 10, none⟩ = some (.int .u64 (a.toS : Int)) := by have h := zc (kr * 12 + 10) _ (flat_get ruleV 12 len_rule P.rules kr 10 a ha (by decide)); rw [← Nat.add_assoc] at h; exact h
   have zf0 := zf (o5 + kr * 12 + 10)
   have z1 : w6.cell? ⟨g5, o5 + kr * 12 + 11, none⟩ = some (.int .i64 a.toL) := by have h := zc (kr * 12 + 11) _ (flat_get ruleV 12 len_rule P.rules kr 11 a ha (by decide)); rw [← Nat.add_assoc] at h; exact h
   have zf1 := zf (o5 + kr * 12 + 11)
   clear zc zf
   refine ordz_skip (w' := ((w6).setCell ⟨g5, o5 + kr * 12 + 10, none⟩ (.int .u64 (la : Int))).setCell ⟨g5, o5 + kr * 12 + 11, none⟩ (.int .i64 lu)) (i := 8) (fuel := 0) (by simp; rfl) (by kernel_rfl) (by rfl) (by rfl) ?_ (.inl rfl) ?_
   ·go_simp
    all_goals with_reducible rfl
   refine ordz_done (by kernel_rfl) ?_ _
   obtain ⟨V, hV⟩ : ∃ V, ((w6).setCell ⟨g5, o5 + kr * 12 + 10, none⟩ (.int .u64 (la : Int))).setCell ⟨g5, o5 + kr * 12 + 11, none⟩ (.int .i64 lu) = V := ⟨_, rfl⟩
   have hX1 := HP6.out.st_r (g := g5) (o := o5) (c := c5) HO5.out (by rw [HNR.out]) (k := kr) (j := 10) (i := kr * 12 + 10) (u := .int .u64 (la : Int)) (a' := { a with toS := la }) ha (by decide) rfl rfl
   rw [← Nat.add_assoc] at hX1
   have hX2 := hX1.st_r (g := g5) (o := o5) (c := c5) HO5.out (by simp only [List.length_set, HNR.out]) (k := kr) (j := 11) (i := kr * 12 + 11) (u := .int .i64 lu) (a := { a with toS := la }) (a' := { a with toS := la, toL := lu }) (set_at ha _) (by decide) rfl rfl
   rw [← Nat.add_assoc] at hX2
   have hX := hX2
   rw [hV] at hX ⊢
   clear hV hX1 hX2 zl z0 z1 zf0 zf1
   have haw := HWD.out.2.2.1 _ (List.mem_of_getElem? ha)
   go_wp2
   go_meet
   case rel => exact bentQ hX ((HWD.out.st_r (k := kr) (a := { a with toS := la }) ⟨haw.1, haw.2.1, hla⟩).st_r ⟨haw.1, haw.2.1, hla⟩)
  ·as_aux_lemma =>
   go_wp2_with fail
   go_loopw [] (fun wr => Growr w gp gz 34 wr) (fun wr => 34 - lenAt wr gp 4)
   case atStart => exact ⟨_, P, g5, o5, c5, HP1.out, HWD.out, HO5.out, by rw [HNR.out], by rw [HNR.out]; omega, by rw [HNR.out]; omega⟩
   case round =>
    clear HP1 HWD HNE HNG HNH HNU HNR HO1 HO2 HO3 HO4 HO5 l2 y0 y1 y2 y3 y4
    obtain ⟨⟨Re, Rg, Rh, Ru, Rr⟩, P, g, o, c, hP, hwd, ho, hR, hl1, hlM⟩ := hrel
    dsimp only at hR
    obtain ⟨m, hm⟩ : ∃ m, P.rules.length = m := ⟨_, rfl⟩
    rw [hm] at hR hl1 hlM
    subst hR
    have HP := Lib.hid hP
    have HWD := Lib.hid hwd
    have HO := Lib.hid ho
    have HM := Lib.hid hm
    obtain ⟨⟨l2, y0, y1, y2, y3, y4⟩, yf⟩ := HP.out.cells
    have hlen := lenAt_of y4
    have hm0 : 0 < m := by omega
    clear hP hwd ho hm yf
    by_cases hlt : m < 34
    ·have hlt' : (m : Int) < 34 := by omega
     obtain ⟨a, ha⟩ := get_at (l := P.rules) (k := 0) (by rw [HM.out]; omega)
     have HA := Lib.hid ha
     have HF := Lib.hid (fst_r (g := g) (o := o) (c := c) HP.out HO.out (by rw [HM.out]) ha)
     clear ha
     go_upto_region 40 with fail
     refine wp_region_ordz (S := FstS gp (⟨Re, Rg, Rh, Ru, .slice (some ⟨g, o, none⟩) m c⟩ : Row5) g o (ruleV a)) (z := 9) (by kernel_rfl) ?_
     refine ordz_take (v := ?_) (i := 0) (fuel := 9) (by simp; rfl) (by kernel_rfl) (by kernel_rfl) (by kernel_rfl) (by kernel_rfl) (Or.inl ⟨by rfl, fun w' hSw => ?_⟩) HF.out.drew ?_
     rotate_left
     ·go_simp
      all_goals with_reducible rfl
     simp only [Act.put, List.setIfInBounds_toArray, List.set_cons_zero, List.set_cons_succ]
     refine ordz_take (v := ?_) (i := 1) (fuel := 8) (by simp; rfl) (by kernel_rfl) (by kernel_rfl) (by kernel_rfl) (by kernel_rfl) (Or.inl ⟨by rfl, fun w' hSw => ?_⟩) HF.out.drew ?_
     rotate_left
     ·obtain ⟨⟨⟨l2, y0, y1, y2, y3, y4⟩, _⟩, _, _⟩ := hSw
      go_simp
      all_goals with_reducible rfl
     simp only [Act.put, List.setIfInBounds_toArray, List.set_cons_zero, List.set_cons_succ]
     refine ordz_take (v := ?_) (i := 2) (fuel := 7) (by simp; rfl) (by kernel_rfl) (by kernel_rfl) (by kernel_rfl) (by kernel_rfl) (Or.inl ⟨by rfl, fun w' hSw => ?_⟩) HF.out.drew ?_
     rotate_left
     ·go_simp
      all_goals with_reducible rfl
     simp only [Act.put, List.setIfInBounds_toArray, List.set_cons_zero, List.set_cons_succ]
     refine ordz_take (v := ?_) (i := 3) (fuel := 6) (by simp; rfl) (by kernel_rfl) (by kernel_rfl) (by kernel_rfl) (by kernel_rfl) (Or.inl ⟨by rfl, fun w' hSw => ?_⟩) HF.out.drew ?_
     rotate_left
     ·obtain ⟨⟨⟨l2, y0, y1, y2, y3, y4⟩, _⟩, _, _⟩ := hSw
      go_simp
      all_goals with_reducible rfl
     simp only [Act.put, List.setIfInBounds_toArray, List.set_cons_zero, List.set_cons_succ]
     refine ordz_take (v := ?_) (i := 4) (fuel := 5) (by simp; rfl) (by kernel_rfl) (by kernel_rfl) (by kernel_rfl) (by kernel_rfl) (Or.inl ⟨by rfl, fun w' hSw => ?_⟩) HF.out.drew ?_
     rotate_left
     ·go_simp
      all_goals with_reducible rfl
     simp only [Act.put, List.setIfInBounds_toArray, List.set_cons_zero, List.set_cons_succ]
     refine ordz_take (v := ?_) (i := 5) (fuel := 4) (by simp; rfl) (by kernel_rfl) (by kernel_rfl) (by kernel_rfl) (by kernel_rfl) (Or.inl ⟨by rfl, fun w' hSw => ?_⟩) HF.out.drew ?_
     rotate_left
     ·obtain ⟨_, zl, zc⟩ := hSw
      have z0 : w'.cell? ⟨g, o, none⟩ = some (.int .i64 a.tag) := zc 0 _ rfl
      have z1 : w'.cell? ⟨g, o + 1, none⟩ = some (.int .i64 a.role) := zc 1 _ rfl
      have z2 : w'.cell? ⟨g, o + 2, none⟩ = some (.int .i64 a.verb) := zc 2 _ rfl
      have z3 : w'.cell? ⟨g, o + 3, none⟩ = some (.int .i64 a.ent) := zc 3 _ rfl
      have z4 : w'.cell? ⟨g, o + 4, none⟩ = some (.int .i64 a.grp) := zc 4 _ rfl
      have z5 : w'.cell? ⟨g, o + 5, none⟩ = some (.int .i64 a.line) := zc 5 _ rfl
      have z6 : w'.cell? ⟨g, o + 6, none⟩ = some (.bool a.neg) := zc 6 _ rfl
      have z7 : w'.cell? ⟨g, o + 7, none⟩ = some (.int .u64 (a.c0 : Int)) := zc 7 _ rfl
      have z8 : w'.cell? ⟨g, o + 8, none⟩ = some (.int .u64 (a.c1 : Int)) := zc 8 _ rfl
      have z9 : w'.cell? ⟨g, o + 9, none⟩ = some (.int .i64 a.sc) := zc 9 _ rfl
      have z10 : w'.cell? ⟨g, o + 10, none⟩ = some (.int .u64 (a.toS : Int)) := zc 10 _ rfl
      have z11 : w'.cell? ⟨g, o + 11, none⟩ = some (.int .i64 a.toL) := zc 11 _ rfl
      go_simp
      all_goals with_reducible rfl
     simp only [Act.put, List.setIfInBounds_toArray, List.set_cons_zero, List.set_cons_succ]
     obtain ⟨gk, hgk⟩ : ∃ x, wr.heap.size = x := ⟨_, rfl⟩
     obtain ⟨Wb, hWb⟩ : ∃ X, wr.drew.alloc (.cells (ruleV a).toArray 51) = X := ⟨_, rfl⟩
     have HFb := Lib.hid (show FstS gp (⟨Re, Rg, Rh, Ru, .slice (some ⟨g, o, none⟩) m c⟩ : Row5) g o (ruleV a) Wb from by rw [← hWb]; exact HF.out.drew.alloc _)
     have HPb := Lib.hid (show PolW w Wb gp gz (⟨Re, Rg, Rh, Ru, .slice (some ⟨g, o, none⟩) m c⟩ : Row5) P from by rw [← hWb]; exact (HP.out.drewN 1).alloc _)
     have HKb := Lib.hid (show Blk Wb gk 51 (ruleV a).toArray from by rw [← hWb, ← hgk]; exact Blk.new _ _ _)
     have HWb := Lib.hid hWb
     have HGK := Lib.hid hgk
     clear hWb hgk
     refine ordz_only (v := .slice (some ⟨gk, 0, none⟩) 1 1) (w' := Wb) (i := 6) (fuel := 3) (by simp; rfl) (by kernel_rfl) (by rfl) ?_ (.inr HFb.out) ?_
     ·rw [← HWb.out, ← HGK.out]
      exact lit_rule a rfl rfl
     simp only [Act.put, List.setIfInBounds_toArray, List.set_cons_zero, List.set_cons_succ]
     obtain ⟨g6, o6, c6, x6, ho6, hrun6, hf6, hp6⟩ := app_r (g := g) (o := o) (c := c) HPb.out HO.out (by rw [HM.out]) HA.out HKb.out (by rw [HM.out]; omega)
     rw [HM.out] at hrun6 hp6
     have HF6 := Lib.hid hf6
     have HP6 := Lib.hid hp6
     have HO6 := Lib.hid ho6
     clear hf6 hp6 ho6
     refine ordz_only (v := .slice (some ⟨g6, o6, none⟩) (m + 1) c6) (w' := x6) (i := 7) (fuel := 2) (by simp; rfl) (by kernel_rfl) (by rfl) ?_ (.inr HF6.out) ?_
     ·refine (append_runZ (s := .tmp 174) (x := .tmp 179) (v := .slice (some ⟨g, o, none⟩) m c) (xv := .slice (some ⟨gk, 0, none⟩) 1 1) rfl (by rfl) (by rfl) hrun6).trans ?_
      with_reducible rfl
     simp only [Act.put, List.setIfInBounds_toArray, List.set_cons_zero, List.set_cons_succ]
     clear hrun6
     refine ordz_only (v := ?_) (w' := x6) (i := 8) (fuel := 1) (by simp; rfl) (by kernel_rfl) (by rfl) ?_ (.inr HF6.out) ?_
     rotate_left
     ·go_simp
      all_goals with_reducible rfl
     simp only [Act.put, List.setIfInBounds_toArray, List.set_cons_zero, List.set_cons_succ]
     obtain ⟨⟨⟨hl6, q0, q1, q2, q3, q4⟩, hfz6⟩, _, _⟩ := HF6.out
     have hfz := hfz6 4
     clear hfz6
     refine ordz_skip (w' := x6.setCell ⟨gp, 4, none⟩ (.slice (some ⟨g6, o6, none⟩) (m + 1) c6)) (i := 9) (fuel := 0) (by simp; rfl) (by kernel_rfl) (by rfl) (by rfl) ?_ (.inl rfl) ?_
     ·go_simp
      all_goals with_reducible rfl
     refine ordz_done (by kernel_rfl) ?_ _
     obtain ⟨W9, hW9⟩ : ∃ X, x6.setCell ⟨gp, 4, none⟩ (.slice (some ⟨g6, o6, none⟩) (m + 1) c6) = X := ⟨_, rfl⟩
     rw [hW9] at HP6 ⊢
     have hl9 : lenAt W9 gp 4 = m + 1 := by
      obtain ⟨⟨_, u0, u1, u2, u3, u4⟩, _⟩ := HP6.out.cells
      exact lenAt_of u4
     clear hW9 hl6 q0 q1 q2 q3 q4 hfz
     go_wp2
     go_roundw
     case rel => exact ⟨_, _, g6, o6, c6, HP6.out, HWD.out.app_r (HWD.out.2.2.1 _ (List.mem_of_getElem? HA.out)) (by rw [HM.out]; omega), HO6.out, by rw [List.length_append, HM.out]; rfl, by rw [List.length_append, HM.out]; omega, by rw [List.length_append, HM.out]; simp; omega⟩
     case measure =>
      try rw [hl9]
      try rw [hlen]
      omega
    ·have hlt' : ¬ (m : Int) < 34 := by omega
     obtain ⟨j, hj, hj'⟩ := pick_n by_ 3 (by omega)
     have HKj := Lib.hid (fun V : World => pick_d by_ 3 (j : Int) V (by omega) (by omega) hj)
     clear hj
     obtain ⟨k, hk⟩ : ∃ k : Nat, (31 : Int) + (j : Int) = (k : Int) := ⟨31 + j, by omega⟩
     have hkw : IntKind.i64.wrap (k : Int) = (k : Int) := wrapI (by omega) (by omega)
     have hjc : k ≤ m := by omega
     have hle : k ≤ c := by
      have h := HP.out.own_r
      rw [HM.out] at h
      have := own_cap h
      omega
     have hle' : (k : Int) ≤ (c : Int) := by omega
     have hfz := HP.out.cells.2 4
     go_upto_region 41 with fail
     refine wp_region_ordz (S := fun V => Below wr.heap.size wr V) (z := 7) (by kernel_rfl) ?_
     refine ordz_take (v := ?_) (i := 0) (fuel := 7) (by simp; rfl) (by kernel_rfl) (by kernel_rfl) (by kernel_rfl) (by kernel_rfl) (Or.inl ⟨by rfl, fun w' hSw => ?_⟩) (Below.refl wr.heap.size wr).drew ?_
     rotate_left
     ·go_simp
      all_goals with_reducible rfl
     simp only [Act.put, List.setIfInBounds_toArray, List.set_cons_zero, List.set_cons_succ]
     refine ordz_take (v := ?_) (i := 1) (fuel := 6) (by simp; rfl) (by kernel_rfl) (by kernel_rfl) (by kernel_rfl) (by kernel_rfl) (Or.inl ⟨by rfl, fun w' hSw => ?_⟩) (Below.refl wr.heap.size wr).drew ?_
     rotate_left
     ·have hPC := (HP.out.below hSw).cells.1
      obtain ⟨l2, y0, y1, y2, y3, y4⟩ := hPC
      go_simp
      all_goals with_reducible rfl
     simp only [Act.put, List.setIfInBounds_toArray, List.set_cons_zero, List.set_cons_succ]
     refine ordz_take (v := ?_) (i := 2) (fuel := 5) (by simp; rfl) (by kernel_rfl) (by kernel_rfl) (by kernel_rfl) (by kernel_rfl) (Or.inl ⟨by rfl, fun w' hSw => ?_⟩) (Below.refl wr.heap.size wr).drew ?_
     rotate_left
     ·go_simp
      all_goals with_reducible rfl
     simp only [Act.put, List.setIfInBounds_toArray, List.set_cons_zero, List.set_cons_succ]
     refine ordc_take (v := ?_) (i := 3) (fuel := 4) (by simp; rfl) (by kernel_rfl) (by kernel_rfl) (by kernel_rfl) (by kernel_rfl) ⟨by rfl, 5, #[.int .i64 by_, .int .i64 3], fun w' hSw => ⟨?_, ?_⟩⟩ (Below.refl wr.heap.size wr).drew ?_
     rotate_left
     ·go_simp
      all_goals with_reducible rfl
     ·exact HKj.out w'
     simp only [Act.put, List.setIfInBounds_toArray, List.set_cons_zero, List.set_cons_succ]
     refine ordz_take (v := ?_) (i := 4) (fuel := 3) (by simp; rfl) (by kernel_rfl) (by kernel_rfl) (by kernel_rfl) (by kernel_rfl) (Or.inl ⟨by rfl, fun w' hSw => ?_⟩) (Below.refl wr.heap.size wr).drew ?_
     rotate_left
     ·go_simp
      all_goals with_reducible rfl
     simp only [Act.put, List.setIfInBounds_toArray, List.set_cons_zero, List.set_cons_succ]
     refine ordz_take (v := ?_) (i := 5) (fuel := 2) (by simp; rfl) (by kernel_rfl) (by kernel_rfl) (by kernel_rfl) (by kernel_rfl) (Or.inl ⟨by rfl, fun w' hSw => ?_⟩) (Below.refl wr.heap.size wr).drew ?_
     rotate_left
     ·go_simp
      all_goals with_reducible rfl
     simp only [Act.put, List.setIfInBounds_toArray, List.set_cons_zero, List.set_cons_succ]
     refine ordz_take (v := ?_) (i := 6) (fuel := 1) (by simp; rfl) (by kernel_rfl) (by kernel_rfl) (by kernel_rfl) (by kernel_rfl) (Or.inl ⟨by rfl, fun w' hSw => ?_⟩) (Below.refl wr.heap.size wr).drew ?_
     rotate_left
     ·go_simp
      all_goals with_reducible rfl
     simp only [Act.put, List.setIfInBounds_toArray, List.set_cons_zero, List.set_cons_succ]
     refine ordz_skip (w' := (wr.setCell ⟨gp, 4, none⟩ (.slice (some ⟨g, o, none⟩) k c)).drew) (i := 7) (fuel := 0) (by simp; rfl) (by kernel_rfl) (by rfl) (by rfl) ?_ (.inl rfl) ?_
     ·go_simp
      all_goals with_reducible rfl
     refine ordz_done (by kernel_rfl) ?_ _
     obtain ⟨V, hV⟩ : ∃ V, (wr.setCell ⟨gp, 4, none⟩ (.slice (some ⟨g, o, none⟩) k c)).drew = V := ⟨_, rfl⟩
     have hX : BentQ w V gp gz := by rw [← hV]; exact (bentQ_cut_r (g := g) (o := o) (n := m) (m := k) (c := c) HP.out HWD.out rfl HM.out hjc).drew
     rw [hV]
     clear hV
     go_wp2
     go_meet
     case rel => exact hX
  ·as_aux_lemma =>
   go_wp2_with fail
   go_loopw [] (fun wr => Growh w gp gz 10 wr) (fun wr => 10 - lenAt wr gp 2)
   case atStart => exact ⟨_, P, g3, o3, c3, HP1.out, HWD.out, HO3.out, by rw [HNH.out], by rw [HNH.out]; omega, by rw [HNH.out]; omega⟩
   case round =>
    clear HP1 HWD HNE HNG HNH HNU HNR HO1 HO2 HO3 HO4 HO5 l2 y0 y1 y2 y3 y4
    obtain ⟨⟨Re, Rg, Rh, Ru, Rr⟩, P, g, o, c, hP, hwd, ho, hR, hl1, hlM⟩ := hrel
    dsimp only at hR
    obtain ⟨m, hm⟩ : ∃ m, P.who.length = m := ⟨_, rfl⟩
    rw [hm] at hR hl1 hlM
    subst hR
    have HP := Lib.hid hP
    have HWD := Lib.hid hwd
    have HO := Lib.hid ho
    have HM := Lib.hid hm
    obtain ⟨⟨l2, y0, y1, y2, y3, y4⟩, yf⟩ := HP.out.cells
    have hlen := lenAt_of y2
    have hm0 : 0 < m := by omega
    clear hP hwd ho hm yf
    by_cases hlt : m < 10
    ·have hlt' : (m : Int) < 10 := by omega
     obtain ⟨a, ha⟩ := get_at (l := P.who) (k := 0) (by rw [HM.out]; omega)
     have HA := Lib.hid ha
     have HF := Lib.hid (fst_h (g := g) (o := o) (c := c) HP.out HO.out (by rw [HM.out]) ha)
     clear ha
     go_upto_region 44 with fail
     refine wp_region_ordz (S := FstS gp (⟨Re, Rg, .slice (some ⟨g, o, none⟩) m c, Ru, Rr⟩ : Row5) g o (whoV a)) (z := 9) (by kernel_rfl) ?_
     refine ordz_take (v := ?_) (i := 0) (fuel := 9) (by simp; rfl) (by kernel_rfl) (by kernel_rfl) (by kernel_rfl) (by kernel_rfl) (Or.inl ⟨by rfl, fun w' hSw => ?_⟩) HF.out.drew ?_
     rotate_left
     ·go_simp
      all_goals with_reducible rfl
     simp only [Act.put, List.setIfInBounds_toArray, List.set_cons_zero, List.set_cons_succ]
     refine ordz_take (v := ?_) (i := 1) (fuel := 8) (by simp; rfl) (by kernel_rfl) (by kernel_rfl) (by kernel_rfl) (by kernel_rfl) (Or.inl ⟨by rfl, fun w' hSw => ?_⟩) HF.out.drew ?_
     rotate_left
     ·obtain ⟨⟨⟨l2, y0, y1, y2, y3, y4⟩, _⟩, _, _⟩ := hSw
      go_simp
      all_goals with_reducible rfl
     simp only [Act.put, List.setIfInBounds_toArray, List.set_cons_zero, List.set_cons_succ]
     refine ordz_take (v := ?_) (i := 2) (fuel := 7) (by simp; rfl) (by kernel_rfl) (by kernel_rfl) (by kernel_rfl) (by kernel_rfl) (Or.inl ⟨by rfl, fun w' hSw => ?_⟩) HF.out.drew ?_
     rotate_left
     ·go_simp
      all_goals with_reducible rfl
     simp only [Act.put, List.setIfInBounds_toArray, List.set_cons_zero, List.set_cons_succ]
     refine ordz_take (v := ?_) (i := 3) (fuel := 6) (by simp; rfl) (by kernel_rfl) (by kernel_rfl) (by kernel_rfl) (by kernel_rfl) (Or.inl ⟨by rfl, fun w' hSw => ?_⟩) HF.out.drew ?_
     rotate_left
     ·obtain ⟨⟨⟨l2, y0, y1, y2, y3, y4⟩, _⟩, _, _⟩ := hSw
      go_simp
      all_goals with_reducible rfl
     simp only [Act.put, List.setIfInBounds_toArray, List.set_cons_zero, List.set_cons_succ]
     refine ordz_take (v := ?_) (i := 4) (fuel := 5) (by simp; rfl) (by kernel_rfl) (by kernel_rfl) (by kernel_rfl) (by kernel_rfl) (Or.inl ⟨by rfl, fun w' hSw => ?_⟩) HF.out.drew ?_
     rotate_left
     ·go_simp
      all_goals with_reducible rfl
     simp only [Act.put, List.setIfInBounds_toArray, List.set_cons_zero, List.set_cons_succ]
     refine ordz_take (v := ?_) (i := 5) (fuel := 4) (by simp; rfl) (by kernel_rfl) (by kernel_rfl) (by kernel_rfl) (by kernel_rfl) (Or.inl ⟨by rfl, fun w' hSw => ?_⟩) HF.out.drew ?_
     rotate_left
     ·obtain ⟨_, zl, zc⟩ := hSw
      have z0 : w'.cell? ⟨g, o, none⟩ = some (.int .u64 (a.set : Int)) := zc 0 _ rfl
      have z1 : w'.cell? ⟨g, o + 1, none⟩ = some (.int .i64 a.lv) := zc 1 _ rfl
      have z2 : w'.cell? ⟨g, o + 2, none⟩ = some (.int .u64 (a.ro : Int)) := zc 2 _ rfl
      go_simp
      all_goals with_reducible rfl
     simp only [Act.put, List.setIfInBounds_toArray, List.set_cons_zero, List.set_cons_succ]
     obtain ⟨gk, hgk⟩ : ∃ x, wr.heap.size = x := ⟨_, rfl⟩
     obtain ⟨Wb, hWb⟩ : ∃ X, wr.drew.alloc (.cells (whoV a).toArray 46) = X := ⟨_, rfl⟩
     have HFb := Lib.hid (show FstS gp (⟨Re, Rg, .slice (some ⟨g, o, none⟩) m c, Ru, Rr⟩ : Row5) g o (whoV a) Wb from by rw [← hWb]; exact HF.out.drew.alloc _)
     have HPb := Lib.hid (show PolW w Wb gp gz (⟨Re, Rg, .slice (some ⟨g, o, none⟩) m c, Ru, Rr⟩ : Row5) P from by rw [← hWb]; exact (HP.out.drewN 1).alloc _)
     have HKb := Lib.hid (show Blk Wb gk 46 (whoV a).toArray from by rw [← hWb, ← hgk]; exact Blk.new _ _ _)
     have HWb := Lib.hid hWb
     have HGK := Lib.hid hgk
     clear hWb hgk
     refine ordz_only (v := .slice (some ⟨gk, 0, none⟩) 1 1) (w' := Wb) (i := 6) (fuel := 3) (by simp; rfl) (by kernel_rfl) (by rfl) ?_ (.inr HFb.out) ?_
     ·rw [← HWb.out, ← HGK.out]
      exact lit_who a rfl rfl
     simp only [Act.put, List.setIfInBounds_toArray, List.set_cons_zero, List.set_cons_succ]
     obtain ⟨g6, o6, c6, x6, ho6, hrun6, hf6, hp6⟩ := app_h (g := g) (o := o) (c := c) HPb.out HO.out (by rw [HM.out]) HA.out HKb.out (by rw [HM.out]; omega)
     rw [HM.out] at hrun6 hp6
     have HF6 := Lib.hid hf6
     have HP6 := Lib.hid hp6
     have HO6 := Lib.hid ho6
     clear hf6 hp6 ho6
     refine ordz_only (v := .slice (some ⟨g6, o6, none⟩) (m + 1) c6) (w' := x6) (i := 7) (fuel := 2) (by simp; rfl) (by kernel_rfl) (by rfl) ?_ (.inr HF6.out) ?_
     ·refine (append_runZ (s := .tmp 196) (x := .tmp 201) (v := .slice (some ⟨g, o, none⟩) m c) (xv := .slice (some ⟨gk, 0, none⟩) 1 1) rfl (by rfl) (by rfl) hrun6).trans ?_
      with_reducible rfl
     simp only [Act.put, List.setIfInBounds_toArray, List.set_cons_zero, List.set_cons_succ]
     clear hrun6
     refine ordz_only (v := ?_) (w' := x6) (i := 8) (fuel := 1) (by simp; rfl) (by kernel_rfl) (by rfl) ?_ (.inr HF6.out) ?_
     rotate_left
     ·go_simp
      all_goals with_reducible rfl
     simp only [Act.put, List.setIfInBounds_toArray, List.set_cons_zero, List.set_cons_succ]
     obtain ⟨⟨⟨hl6, q0, q1, q2, q3, q4⟩, hfz6⟩, _, _⟩ := HF6.out
     have hfz := hfz6 2
     clear hfz6
     refine ordz_skip (w' := x6.setCell ⟨gp, 2, none⟩ (.slice (some ⟨g6, o6, none⟩) (m + 1) c6)) (i := 9) (fuel := 0) (by simp; rfl) (by kernel_rfl) (by rfl) (by rfl) ?_ (.inl rfl) ?_
     ·go_simp
      all_goals with_reducible rfl
     refine ordz_done (by kernel_rfl) ?_ _
     obtain ⟨W9, hW9⟩ : ∃ X, x6.setCell ⟨gp, 2, none⟩ (.slice (some ⟨g6, o6, none⟩) (m + 1) c6) = X := ⟨_, rfl⟩
     rw [hW9] at HP6 ⊢
     have hl9 : lenAt W9 gp 2 = m + 1 := by
      obtain ⟨⟨_, u0, u1, u2, u3, u4⟩, _⟩ := HP6.out.cells
      exact lenAt_of u2
     clear hW9 hl6 q0 q1 q2 q3 q4 hfz
     go_wp2
     go_roundw
     case rel => exact ⟨_, _, g6, o6, c6, HP6.out, HWD.out.app_h (HWD.out.2.1 _ (List.mem_of_getElem? HA.out)) (by rw [HM.out]; omega), HO6.out, by rw [List.length_append, HM.out]; rfl, by rw [List.length_append, HM.out]; omega, by rw [List.length_append, HM.out]; simp; omega⟩
     case measure =>
      try rw [hl9]
      try rw [hlen]
      omega
    ·have hlt' : ¬ (m : Int) < 10 := by omega
     obtain ⟨j, hj, hj'⟩ := pick_n by_ 3 (by omega)
     have HKj := Lib.hid (fun V : World => pick_d by_ 3 (j : Int) V (by omega) (by omega) hj)
     clear hj
     obtain ⟨k, hk⟩ : ∃ k : Nat, (7 : Int) + (j : Int) = (k : Int) := ⟨7 + j, by omega⟩
     have hkw : IntKind.i64.wrap (k : Int) = (k : Int) := wrapI (by omega) (by omega)
     have hjc : k ≤ m := by omega
     have hle : k ≤ c := by
      have h := HP.out.own_h
      rw [HM.out] at h
      have := own_cap h
      omega
     have hle' : (k : Int) ≤ (c : Int) := by omega
     have hfz := HP.out.cells.2 2
     go_upto_region 45 with fail
     refine wp_region_ordz (S := fun V => Below wr.heap.size wr V) (z := 7) (by kernel_rfl) ?_
     refine ordz_take (v := ?_) (i := 0) (fuel := 7) (by simp; rfl) (by kernel_rfl) (by kernel_rfl) (by kernel_rfl) (by kernel_rfl) (Or.inl ⟨by rfl, fun w' hSw => ?_⟩) (Below.refl wr.heap.size wr).drew ?_
     rotate_left
     ·go_simp
      all_goals with_reducible rfl
     simp only [Act.put, List.setIfInBounds_toArray, List.set_cons_zero, List.set_cons_succ]
     refine ordz_take (v := ?_) (i := 1) (fuel := 6) (by simp; rfl) (by kernel_rfl) (by kernel_rfl) (by kernel_rfl) (by kernel_rfl) (Or.inl ⟨by rfl, fun w' hSw => ?_⟩) (Below.refl wr.heap.size wr).drew ?_
     rotate_left
     ·have hPC := (HP.out.below hSw).cells.1
      obtain ⟨l2, y0, y1, y2, y3, y4⟩ := hPC
      go_simp
      all_goals with_reducible rfl
     simp only [Act.put, List.setIfInBounds_toArray, List.set_cons_zero, List.set_cons_succ]
     refine ordz_take (v := ?_) (i := 2) (fuel := 5) (by simp; rfl) (by kernel_rfl) (by kernel_rfl) (by kernel_rfl) (by kernel_rfl) (Or.inl ⟨by rfl, fun w' hSw => ?_⟩) (Below.refl wr.heap.size wr).drew ?_
     rotate_left
     ·go_simp
      all_goals with_reducible rfl
     simp only [Act.put, List.setIfInBounds_toArray, List.set_cons_zero, List.set_cons_succ]
     refine ordc_take (v := ?_) (i := 3) (fuel := 4) (by simp; rfl) (by kernel_rfl) (by kernel_rfl) (by kernel_rfl) (by kernel_rfl) ⟨by rfl, 5, #[.int .i64 by_, .int .i64 3], fun w' hSw => ⟨?_, ?_⟩⟩ (Below.refl wr.heap.size wr).drew ?_
     rotate_left
     ·go_simp
      all_goals with_reducible rfl
     ·exact HKj.out w'
     simp only [Act.put, List.setIfInBounds_toArray, List.set_cons_zero, List.set_cons_succ]
     refine ordz_take (v := ?_) (i := 4) (fuel := 3) (by simp; rfl) (by kernel_rfl) (by kernel_rfl) (by kernel_rfl) (by kernel_rfl) (Or.inl ⟨by rfl, fun w' hSw => ?_⟩) (Below.refl wr.heap.size wr).drew ?_
     rotate_left
     ·go_simp
      all_goals with_reducible rfl
     simp only [Act.put, List.setIfInBounds_toArray, List.set_cons_zero, List.set_cons_succ]
     refine ordz_take (v := ?_) (i := 5) (fuel := 2) (by simp; rfl) (by kernel_rfl) (by kernel_rfl) (by kernel_rfl) (by kernel_rfl) (Or.inl ⟨by rfl, fun w' hSw => ?_⟩) (Below.refl wr.heap.size wr).drew ?_
     rotate_left
     ·go_simp
      all_goals with_reducible rfl
     simp only [Act.put, List.setIfInBounds_toArray, List.set_cons_zero, List.set_cons_succ]
     refine ordz_take (v := ?_) (i := 6) (fuel := 1) (by simp; rfl) (by kernel_rfl) (by kernel_rfl) (by kernel_rfl) (by kernel_rfl) (Or.inl ⟨by rfl, fun w' hSw => ?_⟩) (Below.refl wr.heap.size wr).drew ?_
     rotate_left
     ·go_simp
      all_goals with_reducible rfl
     simp only [Act.put, List.setIfInBounds_toArray, List.set_cons_zero, List.set_cons_succ]
     refine ordz_skip (w' := (wr.setCell ⟨gp, 2, none⟩ (.slice (some ⟨g, o, none⟩) k c)).drew) (i := 7) (fuel := 0) (by simp; rfl) (by kernel_rfl) (by rfl) (by rfl) ?_ (.inl rfl) ?_
     ·go_simp
      all_goals with_reducible rfl
     refine ordz_done (by kernel_rfl) ?_ _
     obtain ⟨V, hV⟩ : ∃ V, (wr.setCell ⟨gp, 2, none⟩ (.slice (some ⟨g, o, none⟩) k c)).drew = V := ⟨_, rfl⟩
     have hX : BentQ w V gp gz := by rw [← hV]; exact (bentQ_cut_h (g := g) (o := o) (n := m) (m := k) (c := c) HP.out HWD.out rfl HM.out hjc).drew
     rw [hV]
     clear hV
     go_wp2
     go_meet
     case rel => exact hX
  ·as_aux_lemma =>
   go_wp2_with fail
   go_loopw [] (fun wr => Growg w gp gz 6 wr) (fun wr => 6 - lenAt wr gp 1)
   case atStart => exact ⟨_, P, g2, o2, c2, HP1.out, HWD.out, HO2.out, by rw [HNG.out], by rw [HNG.out]; omega, by rw [HNG.out]; omega⟩
   case round =>
    clear HP1 HWD HNE HNG HNH HNU HNR HO1 HO2 HO3 HO4 HO5 l2 y0 y1 y2 y3 y4
    obtain ⟨⟨Re, Rg, Rh, Ru, Rr⟩, P, g, o, c, hP, hwd, ho, hR, hl1, hlM⟩ := hrel
    dsimp only at hR
    obtain ⟨m, hm⟩ : ∃ m, P.grp.length = m := ⟨_, rfl⟩
    rw [hm] at hR hl1 hlM
    subst hR
    have HP := Lib.hid hP
    have HWD := Lib.hid hwd
    have HO := Lib.hid ho
    have HM := Lib.hid hm
    obtain ⟨⟨l2, y0, y1, y2, y3, y4⟩, yf⟩ := HP.out.cells
    have hlen := lenAt_of y1
    clear hP hwd ho hm yf
    by_cases hlt : m < 6
    ·have hlt' : (m : Int) < 6 := by omega
     go_wp2_with (first
      | (at_builtin; refine wpList_app_row rfl rfl Try.underlying24 Try.u64I rfl (by decide) (by decide) rfl (HP.out.alloc _).own_g [uV 1] rfl rfl ?c1 ?c2 (by decide) ?c4 ?c5 ?_)
      | go_in)
     case c1 => first | exact (fun j u h => h) | exact new_cells wr _ [uV 1]
     case c2 => first | rfl | (intro u hu; rw [List.mem_singleton.1 hu]; rfl)
     case c4 => rw [HM.out]; omega
     case c5 => have := HP.out.bel.size; simp; omega
     intro g6 c6 w6 ho6 hg6
     have hC := (HP.out.alloc _).blk_g hg6
     have HX := Lib.hid ((HP.out.alloc _).put_g hg6 (l' := P.grp ++ [1]) (k := P.grp.length + 1) (by rw [List.map_append]; exact ho6) (by simp))
     obtain ⟨⟨q5, q0, q1, q2, q3, q4⟩, qf⟩ := hC
     have hfz := qf 1
     clear qf ho6 hg6 y0 y1 y2 y3 y4 l2
     go_wp2
     obtain ⟨W9, hW9⟩ : ∃ X, w6.setCell ⟨gp, 1, none⟩ (.slice (some ⟨g6, 0, none⟩) (P.grp.length + 1) c6) = X := ⟨_, rfl⟩
     rw [hW9] at HX ⊢
     have hl9 : lenAt W9 gp 1 = m + 1 := by
      obtain ⟨⟨_, u0, u1, u2, u3, u4⟩, _⟩ := HX.out.cells
      rw [← HM.out]
      exact lenAt_of u1
     clear hW9
     go_roundw
     case rel => exact ⟨_, _, g6, 0, c6, HX.out, HWD.out.app_g (by decide) (by rw [HM.out]; omega), rfl, by rw [List.length_append]; rfl, by rw [List.length_append, HM.out]; omega, by rw [List.length_append, HM.out]; simp; omega⟩
     case measure =>
      try rw [hl9]
      try rw [hlen]
      omega
    ·have hlt' : ¬ (m : Int) < 6 := by omega
     obtain ⟨j, hj, hj'⟩ := pick_n by_ 3 (by omega)
     have HKj := Lib.hid (fun V : World => pick_d by_ 3 (j : Int) V (by omega) (by omega) hj)
     clear hj
     obtain ⟨k, hk⟩ : ∃ k : Nat, (3 : Int) + (j : Int) = (k : Int) := ⟨3 + j, by omega⟩
     have hkw : IntKind.i64.wrap (k : Int) = (k : Int) := wrapI (by omega) (by omega)
     have hjc : k ≤ m := by omega
     have hle : k ≤ c := by
      have h := HP.out.own_g
      rw [HM.out] at h
      have := own_cap h
      omega
     have hle' : (k : Int) ≤ (c : Int) := by omega
     have hfz := HP.out.cells.2 1
     go_upto_region 49 with fail
     refine wp_region_ordz (S := fun V => Below wr.heap.size wr V) (z := 7) (by kernel_rfl) ?_
     refine ordz_take (v := ?_) (i := 0) (fuel := 7) (by simp; rfl) (by kernel_rfl) (by kernel_rfl) (by kernel_rfl) (by kernel_rfl) (Or.inl ⟨by rfl, fun w' hSw => ?_⟩) (Below.refl wr.heap.size wr).drew ?_
     rotate_left
     ·go_simp
      all_goals with_reducible rfl
     simp only [Act.put, List.setIfInBounds_toArray, List.set_cons_zero, List.set_cons_succ]
     refine ordz_take (v := ?_) (i := 1) (fuel := 6) (by simp; rfl) (by kernel_rfl) (by kernel_rfl) (by kernel_rfl) (by kernel_rfl) (Or.inl ⟨by rfl, fun w' hSw => ?_⟩) (Below.refl wr.heap.size wr).drew ?_
     rotate_left
     ·have hPC := (HP.out.below hSw).cells.1
      obtain ⟨l2, y0, y1, y2, y3, y4⟩ := hPC
      go_simp
      all_goals with_reducible rfl
     simp only [Act.put, List.setIfInBounds_toArray, List.set_cons_zero, List.set_cons_succ]
     refine ordz_take (v := ?_) (i := 2) (fuel := 5) (by simp; rfl) (by kernel_rfl) (by kernel_rfl) (by kernel_rfl) (by kernel_rfl) (Or.inl ⟨by rfl, fun w' hSw => ?_⟩) (Below.refl wr.heap.size wr).drew ?_
     rotate_left
     ·go_simp
      all_goals with_reducible rfl
     simp only [Act.put, List.setIfInBounds_toArray, List.set_cons_zero, List.set_cons_succ]
     refine ordc_take (v := ?_) (i := 3) (fuel := 4) (by simp; rfl) (by kernel_rfl) (by kernel_rfl) (by kernel_rfl) (by kernel_rfl) ⟨by rfl, 5, #[.int .i64 by_, .int .i64 3], fun w' hSw => ⟨?_, ?_⟩⟩ (Below.refl wr.heap.size wr).drew ?_
     rotate_left
     ·go_simp
      all_goals with_reducible rfl
     ·exact HKj.out w'
     simp only [Act.put, List.setIfInBounds_toArray, List.set_cons_zero, List.set_cons_succ]
     refine ordz_take (v := ?_) (i := 4) (fuel := 3) (by simp; rfl) (by kernel_rfl) (by kernel_rfl) (by kernel_rfl) (by kernel_rfl) (Or.inl ⟨by rfl, fun w' hSw => ?_⟩) (Below.refl wr.heap.size wr).drew ?_
     rotate_left
     ·go_simp
      all_goals with_reducible rfl
     simp only [Act.put, List.setIfInBounds_toArray, List.set_cons_zero, List.set_cons_succ]
     refine ordz_take (v := ?_) (i := 5) (fuel := 2) (by simp; rfl) (by kernel_rfl) (by kernel_rfl) (by kernel_rfl) (by kernel_rfl) (Or.inl ⟨by rfl, fun w' hSw => ?_⟩) (Below.refl wr.heap.size wr).drew ?_
     rotate_left
     ·go_simp
      all_goals with_reducible rfl
     simp only [Act.put, List.setIfInBounds_toArray, List.set_cons_zero, List.set_cons_succ]
     refine ordz_take (v := ?_) (i := 6) (fuel := 1) (by simp; rfl) (by kernel_rfl) (by kernel_rfl) (by kernel_rfl) (by kernel_rfl) (Or.inl ⟨by rfl, fun w' hSw => ?_⟩) (Below.refl wr.heap.size wr).drew ?_
     rotate_left
     ·go_simp
      all_goals with_reducible rfl
     simp only [Act.put, List.setIfInBounds_toArray, List.set_cons_zero, List.set_cons_succ]
     refine ordz_skip (w' := (wr.setCell ⟨gp, 1, none⟩ (.slice (some ⟨g, o, none⟩) k c)).drew) (i := 7) (fuel := 0) (by simp; rfl) (by kernel_rfl) (by rfl) (by rfl) ?_ (.inl rfl) ?_
     ·go_simp
      all_goals with_reducible rfl
     refine ordz_done (by kernel_rfl) ?_ _
     obtain ⟨V, hV⟩ : ∃ V, (wr.setCell ⟨gp, 1, none⟩ (.slice (some ⟨g, o, none⟩) k c)).drew = V := ⟨_, rfl⟩
     have hX : BentQ w V gp gz := by rw [← hV]; exact (bentQ_cut_g (g := g) (o := o) (n := m) (m := k) (c := c) HP.out HWD.out rfl HM.out hjc).drew
     rw [hV]
     clear hV
     go_wp2
     go_meet
     case rel => exact hX
  ·as_aux_lemma =>
   have hfz := HP1.out.cells.2 0
   go_wp2
   obtain ⟨V, hV⟩ : ∃ V, W1.setCell ⟨gp, 0, none⟩ (.slice (some ⟨g1, o1, none⟩) 0 c1) = V := ⟨_, rfl⟩
   have hX : BentQ w V gp gz := by rw [← hV]; exact bentQ_cut_e (g := g1) (o := o1) (n := ne) (m := 0) (c := c1) HP1.out HWD.out rfl HNE.out (Nat.zero_le _)
   rw [hV]
   clear hV
   go_meet
   case rel => exact hX
  ·as_aux_lemma =>
   have hq0 : ¬ (q : Int) = 0 := by omega
   have hq1 : ¬ (q : Int) = 1 := by omega
   have hq2 : ¬ (q : Int) = 2 := by omega
   have hq3 : ¬ (q : Int) = 3 := by omega
   have hq4 : ¬ (q : Int) = 4 := by omega
   have hq5 : ¬ (q : Int) = 5 := by omega
   have hq6 : ¬ (q : Int) = 6 := by omega
   have hq7 : ¬ (q : Int) = 7 := by omega
   have hq8 : ¬ (q : Int) = 8 := by omega
   have hq9 : ¬ (q : Int) = 9 := by omega
   have hq10 : ¬ (q : Int) = 10 := by omega
   have hq11 : ¬ (q : Int) = 11 := by omega
   have hq12 : ¬ (q : Int) = 12 := by omega
   have hq13 : ¬ (q : Int) = 13 := by omega
   have hq14 : ¬ (q : Int) = 14 := by omega
   have hq15 : ¬ (q : Int) = 15 := by omega
   have hq16 : ¬ (q : Int) = 16 := by omega
   have hq17 : ¬ (q : Int) = 17 := by omega
   have hq18 : ¬ (q : Int) = 18 := by omega
   have hq19 : ¬ (q : Int) = 19 := by omega
   go_wp2
   go_meet
   case rel => exact bentQ HP1.out HWD.out
end Go.Proofs.Ytakofbkbbmpfeaa

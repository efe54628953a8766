/- rule.Right, has, Label, Sees, Releases. -/
import Derived.Test.YtakofbkbbmpfeaaRulB
import Derived.Test.YtakofbkbbmpfeaaRoleC
import Derived.Test.YtakofbkbbmpfeaaPolI
namespace Go.Proofs.Ytakofbkbbmpfeaa
open Go.RowKit
theorem rightPol_iff {P : PolP} {ne ng nh nu nr : Nat} (hne : P.ents.length = ne) (hng : P.grp.length = ng) (hnh : P.who.length = nh) (hnu : P.up.length = nu) (hnr : P.rules.length = nr) :
    RightPol P ↔ ((1 ≤ ne ∧ ne ≤ 8) ∧ AllI_ EntOk P.ents) ∧ (ng ≤ 4 ∧ AllI_ (fun _ g => 0 < g ∧ g < 2 ^ P.ents.length) P.grp) ∧ ((1 ≤ nh ∧ nh ≤ 8) ∧ AllI_ (fun _ x => rightB x.set x.lv = true ∧ x.ro < 256) P.who) ∧ rightL P.up = true ∧ (nr ≤ 32 ∧ AllI_ (fun _ r => RulP ne nu ng r) P.rules) := by
  unfold RightPol
  rw [hne, hng, hnh, hnu, hnr]
  constructor
  · rintro ⟨⟨a, b, c, d, e⟩, f, g, h, i⟩
    exact ⟨⟨a, f⟩, ⟨b, g⟩, ⟨c, h⟩, d, e, i⟩
  · rintro ⟨⟨a, f⟩, ⟨b, g⟩, ⟨c, h⟩, d, e, i⟩
    exact ⟨⟨a, b, c, d, e⟩, f, g, h, i⟩
set_option maxRecDepth 100000 in
set_option maxHeartbeats 3200000 in
theorem ruRight_c (s : Slp) (P : PolP) (w : World) (ne ng nh nu nr : Nat) (h : PolRd w w.heap.size s P) (hwd : PolWd P) (hne : P.ents.length = ne) (hng : P.grp.length = ng) (hnh : P.who.length = nh) (hnu : P.up.length = nu) (hnr : P.rules.length = nr) (β : Bool) (hβ : β = true ↔ RightPol P) :
    Calls Try.prog 8 #[.agg #[.slice s.Ae ne s.ce, .slice s.Ag ng s.cg, .slice s.Ah nh s.ch, .slice s.Au nu s.cu, .slice s.Ar nr s.cr]] w (RetB w β) := by
  obtain ⟨W, hW⟩ : ∃ V, w.alloc (.cells #[.slice s.Ae ne s.ce, .slice s.Ag ng s.cg, .slice s.Ah nh s.ch, .slice s.Au nu s.cu, .slice s.Ar nr s.cr] 28) = V := ⟨_, rfl⟩
  obtain ⟨gp, hgp⟩ : ∃ g, w.heap.size = g := ⟨_, rfl⟩
  have HBW := Lib.hid (show Below w.heap.size w W from by rw [← hW]; exact bel_alloc (Below.refl _ _) _)
  have HPB := Lib.hid (show PolBl W gp s ne ng nh nu nr from by rw [← hW, ← hgp]; exact Blk.new _ _ _)
  have HRD := Lib.hid (fun (V : World) (hb : Below W.heap.size W V) => ((h.below HBW.out).below (hb.mono HBW.out.size)).more (Nat.le_trans HBW.out.size hb.size))
  rw [rightPol_iff hne hng hnh hnu hnr] at hβ
  obtain ⟨b1, h1⟩ := bool_of ((1 ≤ ne ∧ ne ≤ 8) ∧ AllI_ EntOk P.ents)
  obtain ⟨b2, h2⟩ := bool_of (ng ≤ 4 ∧ AllI_ (fun _ g => 0 < g ∧ g < 2 ^ P.ents.length) P.grp)
  obtain ⟨b3, h3⟩ := bool_of ((1 ≤ nh ∧ nh ≤ 8) ∧ AllI_ (fun _ x => rightB x.set x.lv = true ∧ x.ro < 256) P.who)
  obtain ⟨b4, h4⟩ : ∃ b, rightL P.up = b := ⟨_, rfl⟩
  obtain ⟨b5, h5⟩ := bool_of (nr ≤ 32 ∧ AllI_ (fun _ r => RulP ne nu ng r) P.rules)
  have H1 := Lib.hid (fun (V : World) (hb : Below W.heap.size W V) => ruEnts_c s.Ae ne s.ce P.ents V (by have h := (HRD.out V hb).1; rw [hne] at h; exact h) hne b1 h1)
  have H2 := Lib.hid (fun (V : World) (hb : Below W.heap.size W V) (h8 : ne ≤ 8) => ruGrps_c s P V ne ng nh nu nr (HRD.out V hb) hwd hne hng h8 b2 h2)
  have H3 := Lib.hid (fun (V : World) (hb : Below W.heap.size W V) => ruWhos_c s.Ah nh s.ch P.who V (by have h := (HRD.out V hb).2.2.1; rw [hnh] at h; exact h) hwd.2.1 hnh b3 h3)
  have H4 := Lib.hid (fun (V : World) (hb : Below W.heap.size W V) => by
    have g := roRight_c s.Au nu s.cu P.up V (by have h := (HRD.out V hb).2.2.2.1; rw [hnu] at h; exact h) (by have := hwd.2.2.2.2.2.2.1; omega)
    rw [h4] at g
    exact g)
  have H5 := Lib.hid (fun (V : World) (hb : Below W.heap.size W V) => ruRules_c s P V ne ng nh nu nr (HRD.out V hb) hwd hnr b5 h5)
  have HE8 := Lib.hid (show b1 = true → ne ≤ 8 from fun h => (h1.1 h).1.2)
  have HBX := Lib.hid (show β = (b1 && (b2 && (b3 && (b4 && b5)))) from by
    rw [Bool.eq_iff_iff, hβ, Bool.and_eq_true, Bool.and_eq_true, Bool.and_eq_true, Bool.and_eq_true, h1, h2, h3, h5, ← h4])
  obtain ⟨lp, x0, x1, x2, x3, x4⟩ := HPB.out.cells
  clear h hwd hne hng hnh hnu hnr hβ h1 h2 h3 h4 h5 HRD
  go_enter Try.func8, Try.ntmps8
  go_wp2_with fail
  (with_reducible refine (H1.out _ (Below.refl _ _)).mono ?_)
  rintro e w1 ⟨rfl, hb⟩
  clear hW hgp
  have HS1 := Lib.hid hb
  clear hb
  have HP1 := Lib.hid (show PolBl w1 gp s ne ng nh nu nr from Blk.below HPB.out HS1.out (Blk.lt HPB.out))
  clear lp x0 x1 x2 x3 x4
  obtain ⟨lp, x0, x1, x2, x3, x4⟩ := HP1.out.cells
  cases b1
  · skip
    obtain rfl : β = false := by rw [HBX.out]; simp
    go_wp2
    go_ret
    exact ⟨rfl, HBW.out.trans (HS1.out.mono HBW.out.size)⟩
  · skip
    have h8 := HE8.out rfl
    go_wp2_with fail
    (with_reducible refine (H2.out _ HS1.out h8).mono ?_)
    rintro e w2 ⟨rfl, hb⟩
    have HS2 := Lib.hid (HS1.out.trans (hb.mono HS1.out.size))
    clear hb
    have HP2 := Lib.hid (show PolBl w2 gp s ne ng nh nu nr from Blk.below HPB.out HS2.out (Blk.lt HPB.out))
    clear lp x0 x1 x2 x3 x4
    obtain ⟨lp, x0, x1, x2, x3, x4⟩ := HP2.out.cells
    cases b2
    · skip
      obtain rfl : β = false := by rw [HBX.out]; simp
      go_wp2
      go_ret
      exact ⟨rfl, HBW.out.trans (HS2.out.mono HBW.out.size)⟩
    · skip
      go_wp2_with fail
      (with_reducible refine (H3.out _ HS2.out).mono ?_)
      rintro e w3 ⟨rfl, hb⟩
      have HS3 := Lib.hid (HS2.out.trans (hb.mono HS2.out.size))
      clear hb
      have HP3 := Lib.hid (show PolBl w3 gp s ne ng nh nu nr from Blk.below HPB.out HS3.out (Blk.lt HPB.out))
      clear lp x0 x1 x2 x3 x4
      obtain ⟨lp, x0, x1, x2, x3, x4⟩ := HP3.out.cells
      cases b3
      · skip
        obtain rfl : β = false := by rw [HBX.out]; simp
        go_wp2
        go_ret
        exact ⟨rfl, HBW.out.trans (HS3.out.mono HBW.out.size)⟩
      · skip
        go_wp2_with fail
        (with_reducible refine (H4.out _ HS3.out).mono ?_)
        rintro e w4 ⟨rfl, rfl⟩
        cases b4
        · skip
          obtain rfl : β = false := by rw [HBX.out]; simp
          go_wp2
          go_ret
          exact ⟨rfl, HBW.out.trans (HS3.out.mono HBW.out.size)⟩
        · skip
          go_wp2_with fail
          (with_reducible refine (H5.out _ HS3.out).mono ?_)
          rintro e w5 ⟨rfl, hb⟩
          have HS5 := Lib.hid (HS3.out.trans (hb.mono HS3.out.size))
          clear hb
          obtain rfl : β = b5 := by rw [HBX.out]; simp
          go_wp2
          go_ret
          exact ⟨rfl, HBW.out.trans (HS5.out.mono HBW.out.size)⟩
end Go.Proofs.Ytakofbkbbmpfeaa

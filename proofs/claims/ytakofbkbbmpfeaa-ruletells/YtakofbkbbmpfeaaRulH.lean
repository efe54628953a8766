/- pyxref4.May. -/
import Derived.Test.YtakofbkbbmpfeaaTelA
namespace Go.Proofs.Ytakofbkbbmpfeaa
open Go.RowKit
theorem spk_tag {P : PolP} {ro : Nat} {verb e : Int} {r : RuleP} (h : spk P ro verb e r = true) : r.tag = 1 ∨ r.tag = 2 := by
 unfold spk at h
 rw [Bool.and_eq_true] at h
 exact of_decide_eq_true h.1
theorem tagM_range {c : RuleP → Bool} (hc : ∀ r, c r = true → r.tag = 1 ∨ r.tag = 2) (l : List RuleP) : tagM c l = 0 ∨ tagM c l = 1 ∨ tagM c l = 2 := by
 have h : ∀ (l : List RuleP) (a : Int), (a = 0 ∨ a = 1 ∨ a = 2) → (l.foldl (fun a r => if c r then max a r.tag else a) a = 0 ∨ l.foldl (fun a r => if c r then max a r.tag else a) a = 1 ∨ l.foldl (fun a r => if c r then max a r.tag else a) a = 2) := by
  intro l
  induction l with
  | nil => intro a h; exact h
  | cons r l ih =>
   intro a h
   refine ih _ ?_
   dsimp only
   by_cases hr : c r = true
   ·rw [if_pos hr]
    have := hc r hr
    omega
   ·rw [if_neg hr]
    exact h
 exact h l 0 (.inl rfl)
/-- The first j rules were looked at, in this pass. -/
def MayIn (W : World) (P : PolP) (ro : Nat) (verb e : Int) (u v i : Value) (wr : World) : Prop := ∃ j : Nat, j ≤ P.rules.length ∧ i = .int .i64 j ∧ u = .bool (decide (tagM (spk P ro verb e) (P.rules.take j) ≠ 0)) ∧ v = .bool (decide (tagM (spk P ro verb e) (P.rules.take j) = 2)) ∧ Below W.heap.size W wr
/-- That many passes told nothing. -/
def MayOut (W : World) (P : PolP) (ro : Nat) (verb e : Int) (i : Value) (wr : World) : Prop := ∃ p : Nat, p ≤ 2 ∧ i = .int .i64 p ∧ (1 ≤ p → tagM (spk P ro verb e) P.rules = 0) ∧ (2 ≤ p → tagM (spk P ro verb (-1)) P.rules = 0) ∧ Below W.heap.size W wr
set_option maxRecDepth 100000 in
set_option maxHeartbeats 6400000 in
theorem rfMay_c (s : Slp) (P : PolP) (w : World) (ne ng nh nu nr : Nat) (h : PolRd w w.heap.size s P) (hwd : PolWd P) (hne : P.ents.length = ne) (hng : P.grp.length = ng) (hnh : P.who.length = nh) (hnu : P.up.length = nu) (hnr : P.rules.length = nr) (β : Bool) (hβ : β = true ↔ RightPol P) (k : Int) (vb : Int) (en : Int) (q : Bool) (hq : mayB β P k vb en = q) :
  Calls Try.prog 11 #[.agg #[.slice s.Ae ne s.ce, .slice s.Ag ng s.cg, .slice s.Ah nh s.ch, .slice s.Au nu s.cu, .slice s.Ar nr s.cr], .int .i64 k, .int .i64 vb, .int .i64 en] w (RetB w q) := by
 obtain ⟨gp, hgp⟩ : ∃ g, w.heap.size = g := ⟨_, rfl⟩
 obtain ⟨W, hW⟩ : ∃ V, w.alloc (.cells #[.slice s.Ae ne s.ce, .slice s.Ag ng s.cg, .slice s.Ah nh s.ch, .slice s.Au nu s.cu, .slice s.Ar nr s.cr] 28) = V := ⟨_, rfl⟩
 have HBW := Lib.hid (show Below w.heap.size w W from by rw [← hW]; exact bel_alloc (Below.refl _ _) _)
 have HPB := Lib.hid (show PolBl W gp s ne ng nh nu nr from by rw [← hW, ← hgp]; exact Blk.new _ _ _)
 have HRX := Lib.hid (h.below HBW.out)
 have HRP := Lib.hid (rightPol_c s P W ne ng nh nu nr ((h.below HBW.out).more HBW.out.size) hwd hne hng hnh hnu hnr β hβ)
 have HV := Lib.hid hq
 have HWD := Lib.hid hwd
 have HBT := Lib.hid hβ
 have HNE := Lib.hid hne
 have HNH := Lib.hid hnh
 have HNU := Lib.hid hnu
 have HNR := Lib.hid hnr
 have hlr := hwd.2.2.2.2.2.2.2
 rw [hnr] at hlr
 have hlh := hwd.2.2.2.2.2.1
 rw [hnh] at hlh
 have hle := hwd.2.2.2.1
 rw [hne] at hle
 obtain ⟨lp, x0, x1, x2, x3, x4⟩ := HPB.out.cells
 clear h hwd hne hng hnh hnu hnr hβ hq
 go_enter Try.func11, Try.ntmps11
 go_wp2_with fail
 (with_reducible refine HRP.out.mono ?_)
 rintro e w1 ⟨rfl, hb⟩
 have HS1 := Lib.hid hb
 have HP1 := Lib.hid (show PolBl w1 gp s ne ng nh nu nr from Blk.below HPB.out hb (Blk.lt HPB.out))
 clear hb lp x0 x1 x2 x3 x4 hW hgp HRP
 obtain ⟨lp, x0, x1, x2, x3, x4⟩ := HP1.out.cells
 have HF1 := Lib.hid (HBW.out.trans (HS1.out.mono HBW.out.size))
 cases β
 ·obtain rfl : q = false := HV.out.symm
  go_wp2
  go_ret
  exact ⟨rfl, HF1.out⟩
 ·by_cases k1 : 0 ≤ k
  ·by_cases k2 : k < (nh : Int)
   ·by_cases k3 : 0 ≤ en
    ·by_cases k4 : en < (ne : Int)
     ·skip
      obtain ⟨i, rfl⟩ : ∃ i : Nat, k = (i : Int) := ⟨k.toNat, by omega⟩
      obtain ⟨x, hx⟩ := get_at (l := P.who) (k := i) (by rw [HNH.out]; omega)
      have HV2 := Lib.hid (show mayL P x.ro vb en = q by
       have h := HV.out
       unfold mayB whoAt at h
       rw [decide_eq_true k1, decide_eq_true (show (i : Int) < (P.who.length : Int) by rw [HNH.out]; exact k2), decide_eq_true k3, decide_eq_true (show en < (P.ents.length : Int) by rw [HNE.out]; exact k4), Int.toNat_natCast, hx] at h
       simpa using h)
      have HX := Lib.hid hx
      have K3 := Lib.hid k3
      have hi0 : ¬ ((i : Int) < 0) := by omega
      have hi1 : decide (nh ≤ i) = false := decide_eq_false (by omega)
      clear hx HV k3
      have hk3 : ¬ (en < 0) := by have := K3.out; omega
      have hk4 : decide ((ne : Int) ≤ en) = false := decide_eq_false (by omega)
      go_wp2
      clear lp x0 x1 x2 x3 x4
      go_loopw [9] (fun i wr => MayOut W P x.ro vb en i wr) (fun i _ => 2 - (intOf i).toNat)
      case atStart => exact ⟨0, by omega, rfl, by omega, by omega, HS1.out⟩
      case round =>
       obtain ⟨p, hp, rfl, hp1, hp2, hb⟩ := hrel
       have HSo := Lib.hid hb
       have HPo := Lib.hid (show PolBl wr gp s ne ng nh nu nr from Blk.below HPB.out hb (Blk.lt HPB.out))
       have HFo := Lib.hid (HBW.out.trans (hb.mono HBW.out.size))
       have HP12 := Lib.hid (And.intro hp1 hp2)
       clear hb hp1 hp2
       by_cases hpl : p < 2
       ·have hpl' : (p : Int) < 2 := by omega
        obtain ⟨e, he⟩ : ∃ e : Int, (p = 0 ∧ e = en) ∨ (p = 1 ∧ e = -1) := by
         rcases (by omega : p = 0 ∨ p = 1) with h | h
         ·exact ⟨en, .inl ⟨h, rfl⟩⟩
         ·exact ⟨-1, .inr ⟨h, rfl⟩⟩
        have HE := Lib.hid he
        clear he
        go_wp2
        go_loopw [10, 11, 12] (fun u v i wr => MayIn W P x.ro vb e u v i wr) (fun _ _ i _ => nr - (intOf i).toNat)
        case atStart => exact ⟨0, by omega, rfl, rfl, rfl, HSo.out⟩
        case round =>
         obtain ⟨j, hj, rfl, rfl, rfl, hb⟩ := hrel

         have HSr := Lib.hid hb
         have HPr := Lib.hid (show PolBl wr gp s ne ng nh nu nr from Blk.below HPB.out hb (Blk.lt HPB.out))
         have HRr := Lib.hid (HRX.out.below (hb.mono HBW.out.size))
         have HFr := Lib.hid (HBW.out.trans (hb.mono HBW.out.size))
         obtain ⟨lp, x0, x1, x2, x3, x4⟩ := HPr.out.cells
         have hlen := HNR.out
         rw [hlen] at hj
         obtain ⟨t1, ht1⟩ : ∃ t, tagM (spk P x.ro vb e) (P.rules.take j) = t := ⟨_, rfl⟩
         have hrg := tagM_range (c := spk P x.ro vb e) (fun r h => spk_tag h) (P.rules.take j)
         rw [ht1] at hrg ⊢
         obtain ⟨b1, hb1⟩ : ∃ b, decide (t1 ≠ 0) = b := ⟨_, rfl⟩
         obtain ⟨b2, hb2⟩ : ∃ b, decide (t1 = 2) = b := ⟨_, rfl⟩
         rw [hb1, hb2]
         have HT1 := Lib.hid ht1
         have HRG := Lib.hid hrg
         have HD1 := Lib.hid hb1
         have HD2 := Lib.hid hb2
         clear hb ht1 hrg hb1 hb2
         by_cases hlt : j < nr
         ·have hlt' : (j : Int) < (nr : Int) := by omega
          obtain ⟨r, hr⟩ := get_at (l := P.rules) (k := j) (by rw [hlen]; exact hlt)
          obtain ⟨g, o, hA, hg, hc⟩ := rd_rule HRr.out.2.2.2.2 (by rw [hlen]; omega) hr
          obtain ⟨g2, o2, hA2, hg2, _, _, d2⟩ := rd_who HRr.out.2.2.1 (by rw [HNH.out]; omega) HX.out
          have hok := (HBT.out.1 (by first | rfl | trivial)).2.2.2.2 _ _ hr
          have htg : r.tag = 1 ∨ r.tag = 2 ∨ r.tag = 3 := by
           rcases hok.2 with h | h
           ·have := h.1; omega
           ·have := h.1; omega
          obtain ⟨η, hη⟩ : ∃ b, hasV P.up x.ro r.role = b := ⟨_, rfl⟩
          have HHA := Lib.hid (fun (V : World) (hb : Below wr.heap.size wr V) => by
           have h4 := (HRr.out.2.2.2.1.below (hb.mono HFr.out.size)).more (Nat.le_trans HFr.out.size hb.size)
           rw [HNU.out] at h4
           have g := rfHas_c s.Au nu s.cu P.up x.ro (x.ro : Int) r.role V h4 (by have := HWD.out.2.2.2.2.2.2.1; have := HNU.out; omega) rfl
           rw [hη] at g
           exact g)
          have HSY := Lib.hid (show spk P x.ro vb e r = (decide (r.tag = 1 ∨ r.tag = 2) && (decide (r.verb = vb) && (η && decide (r.ent = e)))) by unfold spk; rw [hη])
          have HGR := Lib.hid hr
          obtain ⟨tag, role, verb, ent, grp, line, neg, c0, c1, sc, toS, toL⟩ := r
          obtain ⟨st, lv, ro⟩ := x
          dsimp only at HSY htg HHA d2
          have z0 : wr.cell? ⟨g, o + j * 12, none⟩ = some (.int .i64 tag) := hc 0 _ (by decide) rfl
          have z1 : wr.cell? ⟨g, o + j * 12 + 1, none⟩ = some (.int .i64 role) := hc 1 _ (by decide) rfl
          have z2 : wr.cell? ⟨g, o + j * 12 + 2, none⟩ = some (.int .i64 verb) := hc 2 _ (by decide) rfl
          have z3 : wr.cell? ⟨g, o + j * 12 + 3, none⟩ = some (.int .i64 ent) := hc 3 _ (by decide) rfl
          have z4 : wr.cell? ⟨g, o + j * 12 + 4, none⟩ = some (.int .i64 grp) := hc 4 _ (by decide) rfl
          have z5 : wr.cell? ⟨g, o + j * 12 + 5, none⟩ = some (.int .i64 line) := hc 5 _ (by decide) rfl
          have z6 : wr.cell? ⟨g, o + j * 12 + 6, none⟩ = some (.bool neg) := hc 6 _ (by decide) rfl
          have z7 : wr.cell? ⟨g, o + j * 12 + 7, none⟩ = some (.int .u64 (c0 : Int)) := hc 7 _ (by decide) rfl
          have z8 : wr.cell? ⟨g, o + j * 12 + 8, none⟩ = some (.int .u64 (c1 : Int)) := hc 8 _ (by decide) rfl
          have z9 : wr.cell? ⟨g, o + j * 12 + 9, none⟩ = some (.int .i64 sc) := hc 9 _ (by decide) rfl
          have z10 : wr.cell? ⟨g, o + j * 12 + 10, none⟩ = some (.int .u64 (toS : Int)) := hc 10 _ (by decide) rfl
          have z11 : wr.cell? ⟨g, o + j * 12 + 11, none⟩ = some (.int .i64 toL) := hc 11 _ (by decide) rfl
          obtain ⟨W2, hW2⟩ : ∃ V, wr.alloc (.cells #[.int .i64 tag, .int .i64 role, .int .i64 verb, .int .i64 ent, .int .i64 grp, .int .i64 line, .bool neg, .int .u64 (c0 : Int), .int .u64 (c1 : Int), .int .i64 sc, .int .u64 (toS : Int), .int .i64 toL] 51) = V := ⟨_, rfl⟩
          obtain ⟨gq, hgq⟩ : ∃ g, wr.heap.size = g := ⟨_, rfl⟩
          have HSx := Lib.hid (show Below wr.heap.size wr W2 from by rw [← hW2]; exact bel_alloc (Below.refl _ _) _)
          have HSw := Lib.hid (HSr.out.trans (HSx.out.mono HSr.out.size))
          have HLB := Lib.hid (show Blk W2 gq 51 #[.int .i64 tag, .int .i64 role, .int .i64 verb, .int .i64 ent, .int .i64 grp, .int .i64 line, .bool neg, .int .u64 (c0 : Int), .int .u64 (c1 : Int), .int .i64 sc, .int .u64 (toS : Int), .int .i64 toL] from by rw [← hW2, ← hgq]; exact Blk.new _ _ _)
          have HPw := Lib.hid (show PolBl W2 gp s ne ng nh nu nr from Blk.below HPr.out HSx.out (Blk.lt HPr.out))
          have hgw2 : g2 < wr.heap.size := by have := HFr.out.size; omega
          have HD := Lib.hid (show W2.cell? ⟨g2, o2 + i * 3 + 2, none⟩ = some (.int .u64 (ro : Int)) from (HSx.out.cell (p := ⟨g2, o2 + i * 3 + 2, none⟩) hgw2).trans d2)
          have hgW : g2 < W2.heap.size := by have := HSx.out.size; omega
          have HHX := Lib.hid (fun (V : World) (hb : Below W2.heap.size W2 V) => HHA.out V (HSx.out.trans (hb.mono HSx.out.size)))
          have HJ := Lib.hid (show j < P.rules.length by rw [hlen]; exact hlt)
          have HA2 := Lib.hid hA2
          rw [hA] at x4
          clear hc hA hA2 hη hok HHA hr d2 hg hg2
          go_upto_region 12 with fail
          clear lp x0 x1 x2 x3 x4 z0 z1 z2 z3 z4 z5 z6 z7 z8 z9 z10 z11 hW2 hgq hgw2
          by_cases g1 : tag = 1
          ·have hq1 : (tag == 1) = true := by simp; omega
           have HTG := Lib.hid (show tag = 1 ∨ tag = 2 from .inl g1)
           clear g1 htg
           by_cases j1 : verb = vb
           ·have hb5 : (verb == vb) = true := by simp; omega
            have J1 := Lib.hid j1
            clear j1
            cases η
            ·skip
             have HSZ := Lib.hid (show spk P ro vb e ⟨tag, role, verb, ent, grp, line, neg, c0, c1, sc, toS, toL⟩ = false by rw [HSY.out]; simp)
             refine wp_region_det (S := fun V => Below W2.heap.size W2 V) (by kernel_rfl) (Below.refl W2.heap.size W2).drew ?_
             refine det_take (v := ?_) (i := 0) (fuel := 45) (by simp; rfl) (by kernel_rfl) (by kernel_rfl) (by kernel_rfl) (Or.inl ⟨by rfl, fun w' hS => Or.inl ⟨w', ?_, hS⟩⟩) ?_
             rotate_left
             ·have zl := (HLB.out.below hS HLB.out.lt).lt
              go_simp
              all_goals with_reducible rfl
             simp only [Act.put, List.setIfInBounds_toArray, List.set_cons_zero, List.set_cons_succ]
             refine det_take (v := ?_) (i := 1) (fuel := 44) (by simp; rfl) (by kernel_rfl) (by kernel_rfl) (by kernel_rfl) (Or.inl ⟨by rfl, fun w' hS => Or.inl ⟨w', ?_, hS⟩⟩) ?_
             rotate_left
             ·have zl := (HLB.out.below hS HLB.out.lt).lt
              have z0 : w'.cell? ⟨gq, 0, none⟩ = some (.int .i64 tag) := ((HLB.out.below hS HLB.out.lt).cell 0).trans rfl
              go_simp
              all_goals with_reducible rfl
             simp only [Act.put, List.setIfInBounds_toArray, List.set_cons_zero, List.set_cons_succ]
             refine det_take (v := ?_) (i := 2) (fuel := 43) (by simp; rfl) (by kernel_rfl) (by kernel_rfl) (by kernel_rfl) (Or.inl ⟨by rfl, fun w' hS => Or.inl ⟨w', ?_, hS⟩⟩) ?_
             rotate_left
             ·go_simp
              all_goals with_reducible rfl
             simp only [Act.put, List.setIfInBounds_toArray, List.set_cons_zero, List.set_cons_succ]
             refine det_take (v := ?_) (i := 3) (fuel := 42) (by simp; rfl) (by kernel_rfl) (by kernel_rfl) (by kernel_rfl) (Or.inl ⟨by rfl, fun w' hS => Or.inl ⟨w', ?_, hS⟩⟩) ?_
             rotate_left
             ·go_simp
              all_goals with_reducible rfl
             simp only [Act.put, List.setIfInBounds_toArray, List.set_cons_zero, List.set_cons_succ]
             refine det_take (v := undef) (i := 4) (fuel := 41) (by simp; rfl) (by kernel_rfl) (by kernel_rfl) (by kernel_rfl) (Or.inr ⟨by rfl, by rfl⟩) ?_
             simp only [Act.put, List.setIfInBounds_toArray, List.set_cons_zero, List.set_cons_succ]
             refine det_take (v := undef) (i := 5) (fuel := 40) (by simp; rfl) (by kernel_rfl) (by kernel_rfl) (by kernel_rfl) (Or.inr ⟨by rfl, by rfl⟩) ?_
             simp only [Act.put, List.setIfInBounds_toArray, List.set_cons_zero, List.set_cons_succ]
             refine det_take (v := undef) (i := 6) (fuel := 39) (by simp; rfl) (by kernel_rfl) (by kernel_rfl) (by kernel_rfl) (Or.inr ⟨by rfl, by rfl⟩) ?_
             simp only [Act.put, List.setIfInBounds_toArray, List.set_cons_zero, List.set_cons_succ]
             refine det_take (v := ?_) (i := 7) (fuel := 38) (by simp; rfl) (by kernel_rfl) (by kernel_rfl) (by kernel_rfl) (Or.inl ⟨by rfl, fun w' hS => Or.inl ⟨w', ?_, hS⟩⟩) ?_
             rotate_left
             ·go_simp
              all_goals with_reducible rfl
             simp only [Act.put, List.setIfInBounds_toArray, List.set_cons_zero, List.set_cons_succ]
             refine det_take (v := ?_) (i := 8) (fuel := 37) (by simp; rfl) (by kernel_rfl) (by kernel_rfl) (by kernel_rfl) (Or.inl ⟨by rfl, fun w' hS => Or.inl ⟨w', ?_, hS⟩⟩) ?_
             rotate_left
             ·go_simp
              all_goals with_reducible rfl
             simp only [Act.put, List.setIfInBounds_toArray, List.set_cons_zero, List.set_cons_succ]
             refine det_take (v := ?_) (i := 9) (fuel := 36) (by simp; rfl) (by kernel_rfl) (by kernel_rfl) (by kernel_rfl) (Or.inl ⟨by rfl, fun w' hS => Or.inl ⟨w', ?_, hS⟩⟩) ?_
             rotate_left
             ·have zl := (HLB.out.below hS HLB.out.lt).lt
              go_simp
              all_goals with_reducible rfl
             simp only [Act.put, List.setIfInBounds_toArray, List.set_cons_zero, List.set_cons_succ]
             refine det_take (v := ?_) (i := 10) (fuel := 35) (by simp; rfl) (by kernel_rfl) (by kernel_rfl) (by kernel_rfl) (Or.inl ⟨by rfl, fun w' hS => Or.inl ⟨w', ?_, hS⟩⟩) ?_
             rotate_left
             ·have zl := (HLB.out.below hS HLB.out.lt).lt
              have z2 : w'.cell? ⟨gq, 2, none⟩ = some (.int .i64 verb) := ((HLB.out.below hS HLB.out.lt).cell 2).trans rfl
              go_simp
              all_goals with_reducible rfl
             simp only [Act.put, List.setIfInBounds_toArray, List.set_cons_zero, List.set_cons_succ]
             refine det_take (v := ?_) (i := 11) (fuel := 34) (by simp; rfl) (by kernel_rfl) (by kernel_rfl) (by kernel_rfl) (Or.inl ⟨by rfl, fun w' hS => Or.inl ⟨w', ?_, hS⟩⟩) ?_
             rotate_left
             ·go_simp
              all_goals with_reducible rfl
             simp only [Act.put, List.setIfInBounds_toArray, List.set_cons_zero, List.set_cons_succ]
             refine det_take (v := ?_) (i := 12) (fuel := 33) (by simp; rfl) (by kernel_rfl) (by kernel_rfl) (by kernel_rfl) (Or.inl ⟨by rfl, fun w' hS => Or.inl ⟨w', ?_, hS⟩⟩) ?_
             rotate_left
             ·go_simp
              all_goals with_reducible rfl
             simp only [Act.put, List.setIfInBounds_toArray, List.set_cons_zero, List.set_cons_succ]
             refine det_take (v := ?_) (i := 13) (fuel := 32) (by simp; rfl) (by kernel_rfl) (by kernel_rfl) (by kernel_rfl) (Or.inl ⟨by rfl, fun w' hS => Or.inl ⟨w', ?_, hS⟩⟩) ?_
             rotate_left
             ·go_simp
              all_goals with_reducible rfl
             simp only [Act.put, List.setIfInBounds_toArray, List.set_cons_zero, List.set_cons_succ]
             refine det_take (v := ?_) (i := 14) (fuel := 31) (by simp; rfl) (by kernel_rfl) (by kernel_rfl) (by kernel_rfl) (Or.inl ⟨by rfl, fun w' hS => Or.inl ⟨w', ?_, hS⟩⟩) ?_
             rotate_left
             ·go_simp
              all_goals with_reducible rfl
             simp only [Act.put, List.setIfInBounds_toArray, List.set_cons_zero, List.set_cons_succ]
             refine det_take (v := ?_) (i := 15) (fuel := 30) (by simp; rfl) (by kernel_rfl) (by kernel_rfl) (by kernel_rfl) (Or.inl ⟨by rfl, fun w' hS => Or.inl ⟨w', ?_, hS⟩⟩) ?_
             rotate_left
             ·obtain ⟨lp, x0, x1, x2, x3, x4⟩ := PolBl.cells (Blk.below HPw.out hS (Blk.lt HPw.out))
              go_simp
              all_goals with_reducible rfl
             simp only [Act.put, List.setIfInBounds_toArray, List.set_cons_zero, List.set_cons_succ]
             refine det_take (v := ?_) (i := 16) (fuel := 29) (by simp; rfl) (by kernel_rfl) (by kernel_rfl) (by kernel_rfl) (Or.inl ⟨by rfl, fun w' hS => Or.inl ⟨w', ?_, hS⟩⟩) ?_
             rotate_left
             ·obtain ⟨lp, x0, x1, x2, x3, x4⟩ := PolBl.cells (Blk.below HPw.out hS (Blk.lt HPw.out))
              go_simp
              all_goals with_reducible rfl
             simp only [Act.put, List.setIfInBounds_toArray, List.set_cons_zero, List.set_cons_succ]
             refine det_take (v := ?_) (i := 17) (fuel := 28) (by simp; rfl) (by kernel_rfl) (by kernel_rfl) (by kernel_rfl) (Or.inl ⟨by rfl, fun w' hS => Or.inl ⟨w', ?_, hS⟩⟩) ?_
             rotate_left
             ·obtain ⟨lp, x0, x1, x2, x3, x4⟩ := PolBl.cells (Blk.below HPw.out hS (Blk.lt HPw.out))
              go_simp
              all_goals with_reducible rfl
             simp only [Act.put, List.setIfInBounds_toArray, List.set_cons_zero, List.set_cons_succ]
             refine det_take (v := ?_) (i := 18) (fuel := 27) (by simp; rfl) (by kernel_rfl) (by kernel_rfl) (by kernel_rfl) (Or.inl ⟨by rfl, fun w' hS => Or.inl ⟨w', ?_, hS⟩⟩) ?_
             rotate_left
             ·obtain ⟨lp, x0, x1, x2, x3, x4⟩ := PolBl.cells (Blk.below HPw.out hS (Blk.lt HPw.out))
              rw [HA2.out] at x2
              go_simp
              all_goals with_reducible rfl
             simp only [Act.put, List.setIfInBounds_toArray, List.set_cons_zero, List.set_cons_succ]
             refine det_take (v := ?_) (i := 19) (fuel := 26) (by simp; rfl) (by kernel_rfl) (by kernel_rfl) (by kernel_rfl) (Or.inl ⟨by rfl, fun w' hS => Or.inl ⟨w', ?_, hS⟩⟩) ?_
             rotate_left
             ·go_simp
              all_goals with_reducible rfl
             simp only [Act.put, List.setIfInBounds_toArray, List.set_cons_zero, List.set_cons_succ]
             refine det_take (v := ?_) (i := 20) (fuel := 25) (by simp; rfl) (by kernel_rfl) (by kernel_rfl) (by kernel_rfl) (Or.inl ⟨by rfl, fun w' hS => Or.inl ⟨w', ?_, hS⟩⟩) ?_
             rotate_left
             ·go_simp
              all_goals with_reducible rfl
             simp only [Act.put, List.setIfInBounds_toArray, List.set_cons_zero, List.set_cons_succ]
             refine det_take (v := ?_) (i := 21) (fuel := 24) (by simp; rfl) (by kernel_rfl) (by kernel_rfl) (by kernel_rfl) (Or.inl ⟨by rfl, fun w' hS => Or.inl ⟨w', ?_, hS⟩⟩) ?_
             rotate_left
             ·go_simp
              all_goals with_reducible rfl
             simp only [Act.put, List.setIfInBounds_toArray, List.set_cons_zero, List.set_cons_succ]
             refine det_take (v := ?_) (i := 22) (fuel := 23) (by simp; rfl) (by kernel_rfl) (by kernel_rfl) (by kernel_rfl) (Or.inl ⟨by rfl, fun w' hS => Or.inl ⟨w', ?_, hS⟩⟩) ?_
             rotate_left
             ·have y1 : w'.cell? ⟨g2, o2 + i * 3 + 2, none⟩ = some (.int .u64 (ro : Int)) := (hS.cell (p := ⟨g2, o2 + i * 3 + 2, none⟩) hgW).trans HD.out
              go_simp
              all_goals with_reducible rfl
             simp only [Act.put, List.setIfInBounds_toArray, List.set_cons_zero, List.set_cons_succ]
             refine det_take (v := ?_) (i := 23) (fuel := 22) (by simp; rfl) (by kernel_rfl) (by kernel_rfl) (by kernel_rfl) (Or.inl ⟨by rfl, fun w' hS => Or.inl ⟨w', ?_, hS⟩⟩) ?_
             rotate_left
             ·have zl := (HLB.out.below hS HLB.out.lt).lt
              go_simp
              all_goals with_reducible rfl
             simp only [Act.put, List.setIfInBounds_toArray, List.set_cons_zero, List.set_cons_succ]
             refine det_take (v := ?_) (i := 24) (fuel := 21) (by simp; rfl) (by kernel_rfl) (by kernel_rfl) (by kernel_rfl) (Or.inl ⟨by rfl, fun w' hS => Or.inl ⟨w', ?_, hS⟩⟩) ?_
             rotate_left
             ·have zl := (HLB.out.below hS HLB.out.lt).lt
              have z1 : w'.cell? ⟨gq, 1, none⟩ = some (.int .i64 role) := ((HLB.out.below hS HLB.out.lt).cell 1).trans rfl
              go_simp
              all_goals with_reducible rfl
             simp only [Act.put, List.setIfInBounds_toArray, List.set_cons_zero, List.set_cons_succ]
             refine det_take (v := ?_) (i := 25) (fuel := 20) (by simp; rfl) (by kernel_rfl) (by kernel_rfl) (by kernel_rfl) (Or.inl ⟨by rfl, fun w' hS => Or.inr ⟨33, #[.slice s.Au nu s.cu, .int .u64 (ro : Int), .int .i64 role], w', ?_, ?_⟩⟩) ?_
             rotate_left
             ·go_simp
              all_goals with_reducible rfl
             ·exact (HHX.out w' hS).mono fun e w2 h => ⟨by rw [h.1], h.2 ▸ hS⟩
             simp only [Act.put, List.setIfInBounds_toArray, List.set_cons_zero, List.set_cons_succ]
             refine det_take (v := ?_) (i := 26) (fuel := 19) (by simp; rfl) (by kernel_rfl) (by kernel_rfl) (by kernel_rfl) (Or.inl ⟨by rfl, fun w' hS => Or.inl ⟨w', ?_, hS⟩⟩) ?_
             rotate_left
             ·go_simp
              all_goals with_reducible rfl
             simp only [Act.put, List.setIfInBounds_toArray, List.set_cons_zero, List.set_cons_succ]
             refine det_take (v := ?_) (i := 27) (fuel := 18) (by simp; rfl) (by kernel_rfl) (by kernel_rfl) (by kernel_rfl) (Or.inl ⟨by rfl, fun w' hS => Or.inl ⟨w', ?_, hS⟩⟩) ?_
             rotate_left
             ·go_simp
              all_goals with_reducible rfl
             simp only [Act.put, List.setIfInBounds_toArray, List.set_cons_zero, List.set_cons_succ]
             refine det_take (v := undef) (i := 28) (fuel := 17) (by simp; rfl) (by kernel_rfl) (by kernel_rfl) (by kernel_rfl) (Or.inr ⟨by rfl, by rfl⟩) ?_
             simp only [Act.put, List.setIfInBounds_toArray, List.set_cons_zero, List.set_cons_succ]
             refine det_take (v := undef) (i := 29) (fuel := 16) (by simp; rfl) (by kernel_rfl) (by kernel_rfl) (by kernel_rfl) (Or.inr ⟨by rfl, by rfl⟩) ?_
             simp only [Act.put, List.setIfInBounds_toArray, List.set_cons_zero, List.set_cons_succ]
             refine det_take (v := undef) (i := 30) (fuel := 15) (by simp; rfl) (by kernel_rfl) (by kernel_rfl) (by kernel_rfl) (Or.inr ⟨by rfl, by rfl⟩) ?_
             simp only [Act.put, List.setIfInBounds_toArray, List.set_cons_zero, List.set_cons_succ]
             refine det_take (v := undef) (i := 31) (fuel := 14) (by simp; rfl) (by kernel_rfl) (by kernel_rfl) (by kernel_rfl) (Or.inr ⟨by rfl, by rfl⟩) ?_
             simp only [Act.put, List.setIfInBounds_toArray, List.set_cons_zero, List.set_cons_succ]
             refine det_take (v := undef) (i := 32) (fuel := 13) (by simp; rfl) (by kernel_rfl) (by kernel_rfl) (by kernel_rfl) (Or.inr ⟨by rfl, by rfl⟩) ?_
             simp only [Act.put, List.setIfInBounds_toArray, List.set_cons_zero, List.set_cons_succ]
             refine det_take (v := undef) (i := 33) (fuel := 12) (by simp; rfl) (by kernel_rfl) (by kernel_rfl) (by kernel_rfl) (Or.inr ⟨by rfl, by rfl⟩) ?_
             simp only [Act.put, List.setIfInBounds_toArray, List.set_cons_zero, List.set_cons_succ]
             refine det_take (v := undef) (i := 34) (fuel := 11) (by simp; rfl) (by kernel_rfl) (by kernel_rfl) (by kernel_rfl) (Or.inr ⟨by rfl, by rfl⟩) ?_
             simp only [Act.put, List.setIfInBounds_toArray, List.set_cons_zero, List.set_cons_succ]
             refine det_take (v := undef) (i := 35) (fuel := 10) (by simp; rfl) (by kernel_rfl) (by kernel_rfl) (by kernel_rfl) (Or.inr ⟨by rfl, by rfl⟩) ?_
             simp only [Act.put, List.setIfInBounds_toArray, List.set_cons_zero, List.set_cons_succ]
             refine det_take (v := undef) (i := 36) (fuel := 9) (by simp; rfl) (by kernel_rfl) (by kernel_rfl) (by kernel_rfl) (Or.inr ⟨by rfl, by rfl⟩) ?_
             simp only [Act.put, List.setIfInBounds_toArray, List.set_cons_zero, List.set_cons_succ]
             refine det_take (v := undef) (i := 37) (fuel := 8) (by simp; rfl) (by kernel_rfl) (by kernel_rfl) (by kernel_rfl) (Or.inr ⟨by rfl, by rfl⟩) ?_
             simp only [Act.put, List.setIfInBounds_toArray, List.set_cons_zero, List.set_cons_succ]
             refine det_take (v := undef) (i := 38) (fuel := 7) (by simp; rfl) (by kernel_rfl) (by kernel_rfl) (by kernel_rfl) (Or.inr ⟨by rfl, by rfl⟩) ?_
             simp only [Act.put, List.setIfInBounds_toArray, List.set_cons_zero, List.set_cons_succ]
             refine det_take (v := undef) (i := 39) (fuel := 6) (by simp; rfl) (by kernel_rfl) (by kernel_rfl) (by kernel_rfl) (Or.inr ⟨by rfl, by rfl⟩) ?_
             simp only [Act.put, List.setIfInBounds_toArray, List.set_cons_zero, List.set_cons_succ]
             refine det_take (v := undef) (i := 40) (fuel := 5) (by simp; rfl) (by kernel_rfl) (by kernel_rfl) (by kernel_rfl) (Or.inr ⟨by rfl, by rfl⟩) ?_
             simp only [Act.put, List.setIfInBounds_toArray, List.set_cons_zero, List.set_cons_succ]
             refine det_take (v := undef) (i := 41) (fuel := 4) (by simp; rfl) (by kernel_rfl) (by kernel_rfl) (by kernel_rfl) (Or.inr ⟨by rfl, by rfl⟩) ?_
             simp only [Act.put, List.setIfInBounds_toArray, List.set_cons_zero, List.set_cons_succ]
             refine det_take (v := undef) (i := 42) (fuel := 3) (by simp; rfl) (by kernel_rfl) (by kernel_rfl) (by kernel_rfl) (Or.inr ⟨by rfl, by rfl⟩) ?_
             simp only [Act.put, List.setIfInBounds_toArray, List.set_cons_zero, List.set_cons_succ]
             refine det_take (v := undef) (i := 43) (fuel := 2) (by simp; rfl) (by kernel_rfl) (by kernel_rfl) (by kernel_rfl) (Or.inr ⟨by rfl, by rfl⟩) ?_
             simp only [Act.put, List.setIfInBounds_toArray, List.set_cons_zero, List.set_cons_succ]
             refine det_take (v := undef) (i := 44) (fuel := 1) (by simp; rfl) (by kernel_rfl) (by kernel_rfl) (by kernel_rfl) (Or.inr ⟨by rfl, by rfl⟩) ?_
             simp only [Act.put, List.setIfInBounds_toArray, List.set_cons_zero, List.set_cons_succ]
             refine det_take (v := ?_) (i := 45) (fuel := 0) (by simp; rfl) (by kernel_rfl) (by kernel_rfl) (by kernel_rfl) (Or.inl ⟨by rfl, fun w' hS => Or.inl ⟨w', ?_, hS⟩⟩) ?_
             rotate_left
             ·go_simp
              all_goals with_reducible rfl
             simp only [Act.put, List.setIfInBounds_toArray, List.set_cons_zero, List.set_cons_succ]
             refine det_done (by kernel_rfl) (fun V hV => ?_) _
             have HV9 := Lib.hid (HSw.out.trans (hV.mono HSw.out.size))
             have hN : tagM (spk P ro vb e) (P.rules.take (j + 1)) = t1 := by rw [tagM_no HGR.out HSZ.out, HT1.out]
             have HR9 := Lib.hid (And.intro (show decide (tagM (spk P ro vb e) (P.rules.take (j + 1)) ≠ 0) = b1 by rw [hN]; exact HD1.out) (show decide (tagM (spk P ro vb e) (P.rules.take (j + 1)) = 2) = b2 by rw [hN]; exact HD2.out))
             clear hN
             go_wp2
             go_roundw
             case rel => exact ⟨j + 1, HJ.out, by go_num, by rw [HR9.out.1], by rw [HR9.out.2], HV9.out⟩
             case measure => simp [intOf]; omega
            ·skip
             by_cases h0 : p = 0
             ·have hp0 : ((p : Int) == 0) = true := by simp; omega
              have hee : e = en := by have := HE.out; omega
              by_cases j3 : ent = en
              ·have hb6 : (ent == en) = true := by simp; omega
               have HSZ := Lib.hid (show spk P ro vb e ⟨tag, role, verb, ent, grp, line, neg, c0, c1, sc, toS, toL⟩ = true by rw [HSY.out]; rw [decide_eq_true (show tag = 1 ∨ tag = 2 from by have := HTG.out; omega), decide_eq_true J1.out, hee, decide_eq_true j3]; rfl)
               clear j3 hee
               refine wp_region_det (S := fun V => Below W2.heap.size W2 V) (by kernel_rfl) (Below.refl W2.heap.size W2).drew ?_
               refine det_take (v := ?_) (i := 0) (fuel := 45) (by simp; rfl) (by kernel_rfl) (by kernel_rfl) (by kernel_rfl) (Or.inl ⟨by rfl, fun w' hS => Or.inl ⟨w', ?_, hS⟩⟩) ?_
               rotate_left
               ·have zl := (HLB.out.below hS HLB.out.lt).lt
                go_simp
                all_goals with_reducible rfl
               simp only [Act.put, List.setIfInBounds_toArray, List.set_cons_zero, List.set_cons_succ]
               refine det_take (v := ?_) (i := 1) (fuel := 44) (by simp; rfl) (by kernel_rfl) (by kernel_rfl) (by kernel_rfl) (Or.inl ⟨by rfl, fun w' hS => Or.inl ⟨w', ?_, hS⟩⟩) ?_
               rotate_left
               ·have zl := (HLB.out.below hS HLB.out.lt).lt
                have z0 : w'.cell? ⟨gq, 0, none⟩ = some (.int .i64 tag) := ((HLB.out.below hS HLB.out.lt).cell 0).trans rfl
                go_simp
                all_goals with_reducible rfl
               simp only [Act.put, List.setIfInBounds_toArray, List.set_cons_zero, List.set_cons_succ]
               refine det_take (v := ?_) (i := 2) (fuel := 43) (by simp; rfl) (by kernel_rfl) (by kernel_rfl) (by kernel_rfl) (Or.inl ⟨by rfl, fun w' hS => Or.inl ⟨w', ?_, hS⟩⟩) ?_
               rotate_left
               ·go_simp
                all_goals with_reducible rfl
               simp only [Act.put, List.setIfInBounds_toArray, List.set_cons_zero, List.set_cons_succ]
               refine det_take (v := ?_) (i := 3) (fuel := 42) (by simp; rfl) (by kernel_rfl) (by kernel_rfl) (by kernel_rfl) (Or.inl ⟨by rfl, fun w' hS => Or.inl ⟨w', ?_, hS⟩⟩) ?_
               rotate_left
               ·go_simp
                all_goals with_reducible rfl
               simp only [Act.put, List.setIfInBounds_toArray, List.set_cons_zero, List.set_cons_succ]
               refine det_take (v := undef) (i := 4) (fuel := 41) (by simp; rfl) (by kernel_rfl) (by kernel_rfl) (by kernel_rfl) (Or.inr ⟨by rfl, by rfl⟩) ?_
               simp only [Act.put, List.setIfInBounds_toArray, List.set_cons_zero, List.set_cons_succ]
               refine det_take (v := undef) (i := 5) (fuel := 40) (by simp; rfl) (by kernel_rfl) (by kernel_rfl) (by kernel_rfl) (Or.inr ⟨by rfl, by rfl⟩) ?_
               simp only [Act.put, List.setIfInBounds_toArray, List.set_cons_zero, List.set_cons_succ]
               refine det_take (v := undef) (i := 6) (fuel := 39) (by simp; rfl) (by kernel_rfl) (by kernel_rfl) (by kernel_rfl) (Or.inr ⟨by rfl, by rfl⟩) ?_
               simp only [Act.put, List.setIfInBounds_toArray, List.set_cons_zero, List.set_cons_succ]
               refine det_take (v := ?_) (i := 7) (fuel := 38) (by simp; rfl) (by kernel_rfl) (by kernel_rfl) (by kernel_rfl) (Or.inl ⟨by rfl, fun w' hS => Or.inl ⟨w', ?_, hS⟩⟩) ?_
               rotate_left
               ·go_simp
                all_goals with_reducible rfl
               simp only [Act.put, List.setIfInBounds_toArray, List.set_cons_zero, List.set_cons_succ]
               refine det_take (v := ?_) (i := 8) (fuel := 37) (by simp; rfl) (by kernel_rfl) (by kernel_rfl) (by kernel_rfl) (Or.inl ⟨by rfl, fun w' hS => Or.inl ⟨w', ?_, hS⟩⟩) ?_
               rotate_left
               ·go_simp
                all_goals with_reducible rfl
               simp only [Act.put, List.setIfInBounds_toArray, List.set_cons_zero, List.set_cons_succ]
               refine det_take (v := ?_) (i := 9) (fuel := 36) (by simp; rfl) (by kernel_rfl) (by kernel_rfl) (by kernel_rfl) (Or.inl ⟨by rfl, fun w' hS => Or.inl ⟨w', ?_, hS⟩⟩) ?_
               rotate_left
               ·have zl := (HLB.out.below hS HLB.out.lt).lt
                go_simp
                all_goals with_reducible rfl
               simp only [Act.put, List.setIfInBounds_toArray, List.set_cons_zero, List.set_cons_succ]
               refine det_take (v := ?_) (i := 10) (fuel := 35) (by simp; rfl) (by kernel_rfl) (by kernel_rfl) (by kernel_rfl) (Or.inl ⟨by rfl, fun w' hS => Or.inl ⟨w', ?_, hS⟩⟩) ?_
               rotate_left
               ·have zl := (HLB.out.below hS HLB.out.lt).lt
                have z2 : w'.cell? ⟨gq, 2, none⟩ = some (.int .i64 verb) := ((HLB.out.below hS HLB.out.lt).cell 2).trans rfl
                go_simp
                all_goals with_reducible rfl
               simp only [Act.put, List.setIfInBounds_toArray, List.set_cons_zero, List.set_cons_succ]
               refine det_take (v := ?_) (i := 11) (fuel := 34) (by simp; rfl) (by kernel_rfl) (by kernel_rfl) (by kernel_rfl) (Or.inl ⟨by rfl, fun w' hS => Or.inl ⟨w', ?_, hS⟩⟩) ?_
               rotate_left
               ·go_simp
                all_goals with_reducible rfl
               simp only [Act.put, List.setIfInBounds_toArray, List.set_cons_zero, List.set_cons_succ]
               refine det_take (v := ?_) (i := 12) (fuel := 33) (by simp; rfl) (by kernel_rfl) (by kernel_rfl) (by kernel_rfl) (Or.inl ⟨by rfl, fun w' hS => Or.inl ⟨w', ?_, hS⟩⟩) ?_
               rotate_left
               ·go_simp
                all_goals with_reducible rfl
               simp only [Act.put, List.setIfInBounds_toArray, List.set_cons_zero, List.set_cons_succ]
               refine det_take (v := ?_) (i := 13) (fuel := 32) (by simp; rfl) (by kernel_rfl) (by kernel_rfl) (by kernel_rfl) (Or.inl ⟨by rfl, fun w' hS => Or.inl ⟨w', ?_, hS⟩⟩) ?_
               rotate_left
               ·go_simp
                all_goals with_reducible rfl
               simp only [Act.put, List.setIfInBounds_toArray, List.set_cons_zero, List.set_cons_succ]
               refine det_take (v := ?_) (i := 14) (fuel := 31) (by simp; rfl) (by kernel_rfl) (by kernel_rfl) (by kernel_rfl) (Or.inl ⟨by rfl, fun w' hS => Or.inl ⟨w', ?_, hS⟩⟩) ?_
               rotate_left
               ·go_simp
                all_goals with_reducible rfl
               simp only [Act.put, List.setIfInBounds_toArray, List.set_cons_zero, List.set_cons_succ]
               refine det_take (v := ?_) (i := 15) (fuel := 30) (by simp; rfl) (by kernel_rfl) (by kernel_rfl) (by kernel_rfl) (Or.inl ⟨by rfl, fun w' hS => Or.inl ⟨w', ?_, hS⟩⟩) ?_
               rotate_left
               ·obtain ⟨lp, x0, x1, x2, x3, x4⟩ := PolBl.cells (Blk.below HPw.out hS (Blk.lt HPw.out))
                go_simp
                all_goals with_reducible rfl
               simp only [Act.put, List.setIfInBounds_toArray, List.set_cons_zero, List.set_cons_succ]
               refine det_take (v := ?_) (i := 16) (fuel := 29) (by simp; rfl) (by kernel_rfl) (by kernel_rfl) (by kernel_rfl) (Or.inl ⟨by rfl, fun w' hS => Or.inl ⟨w', ?_, hS⟩⟩) ?_
               rotate_left
               ·obtain ⟨lp, x0, x1, x2, x3, x4⟩ := PolBl.cells (Blk.below HPw.out hS (Blk.lt HPw.out))
                go_simp
                all_goals with_reducible rfl
               simp only [Act.put, List.setIfInBounds_toArray, List.set_cons_zero, List.set_cons_succ]
               refine det_take (v := ?_) (i := 17) (fuel := 28) (by simp; rfl) (by kernel_rfl) (by kernel_rfl) (by kernel_rfl) (Or.inl ⟨by rfl, fun w' hS => Or.inl ⟨w', ?_, hS⟩⟩) ?_
               rotate_left
               ·obtain ⟨lp, x0, x1, x2, x3, x4⟩ := PolBl.cells (Blk.below HPw.out hS (Blk.lt HPw.out))
                go_simp
                all_goals with_reducible rfl
               simp only [Act.put, List.setIfInBounds_toArray, List.set_cons_zero, List.set_cons_succ]
               refine det_take (v := ?_) (i := 18) (fuel := 27) (by simp; rfl) (by kernel_rfl) (by kernel_rfl) (by kernel_rfl) (Or.inl ⟨by rfl, fun w' hS => Or.inl ⟨w', ?_, hS⟩⟩) ?_
               rotate_left
               ·obtain ⟨lp, x0, x1, x2, x3, x4⟩ := PolBl.cells (Blk.below HPw.out hS (Blk.lt HPw.out))
                rw [HA2.out] at x2
                go_simp
                all_goals with_reducible rfl
               simp only [Act.put, List.setIfInBounds_toArray, List.set_cons_zero, List.set_cons_succ]
               refine det_take (v := ?_) (i := 19) (fuel := 26) (by simp; rfl) (by kernel_rfl) (by kernel_rfl) (by kernel_rfl) (Or.inl ⟨by rfl, fun w' hS => Or.inl ⟨w', ?_, hS⟩⟩) ?_
               rotate_left
               ·go_simp
                all_goals with_reducible rfl
               simp only [Act.put, List.setIfInBounds_toArray, List.set_cons_zero, List.set_cons_succ]
               refine det_take (v := ?_) (i := 20) (fuel := 25) (by simp; rfl) (by kernel_rfl) (by kernel_rfl) (by kernel_rfl) (Or.inl ⟨by rfl, fun w' hS => Or.inl ⟨w', ?_, hS⟩⟩) ?_
               rotate_left
               ·go_simp
                all_goals with_reducible rfl
               simp only [Act.put, List.setIfInBounds_toArray, List.set_cons_zero, List.set_cons_succ]
               refine det_take (v := ?_) (i := 21) (fuel := 24) (by simp; rfl) (by kernel_rfl) (by kernel_rfl) (by kernel_rfl) (Or.inl ⟨by rfl, fun w' hS => Or.inl ⟨w', ?_, hS⟩⟩) ?_
               rotate_left
               ·go_simp
                all_goals with_reducible rfl
               simp only [Act.put, List.setIfInBounds_toArray, List.set_cons_zero, List.set_cons_succ]
               refine det_take (v := ?_) (i := 22) (fuel := 23) (by simp; rfl) (by kernel_rfl) (by kernel_rfl) (by kernel_rfl) (Or.inl ⟨by rfl, fun w' hS => Or.inl ⟨w', ?_, hS⟩⟩) ?_
               rotate_left
               ·have y1 : w'.cell? ⟨g2, o2 + i * 3 + 2, none⟩ = some (.int .u64 (ro : Int)) := (hS.cell (p := ⟨g2, o2 + i * 3 + 2, none⟩) hgW).trans HD.out
                go_simp
                all_goals with_reducible rfl
               simp only [Act.put, List.setIfInBounds_toArray, List.set_cons_zero, List.set_cons_succ]
               refine det_take (v := ?_) (i := 23) (fuel := 22) (by simp; rfl) (by kernel_rfl) (by kernel_rfl) (by kernel_rfl) (Or.inl ⟨by rfl, fun w' hS => Or.inl ⟨w', ?_, hS⟩⟩) ?_
               rotate_left
               ·have zl := (HLB.out.below hS HLB.out.lt).lt
                go_simp
                all_goals with_reducible rfl
               simp only [Act.put, List.setIfInBounds_toArray, List.set_cons_zero, List.set_cons_succ]
               refine det_take (v := ?_) (i := 24) (fuel := 21) (by simp; rfl) (by kernel_rfl) (by kernel_rfl) (by kernel_rfl) (Or.inl ⟨by rfl, fun w' hS => Or.inl ⟨w', ?_, hS⟩⟩) ?_
               rotate_left
               ·have zl := (HLB.out.below hS HLB.out.lt).lt
                have z1 : w'.cell? ⟨gq, 1, none⟩ = some (.int .i64 role) := ((HLB.out.below hS HLB.out.lt).cell 1).trans rfl
                go_simp
                all_goals with_reducible rfl
               simp only [Act.put, List.setIfInBounds_toArray, List.set_cons_zero, List.set_cons_succ]
               refine det_take (v := ?_) (i := 25) (fuel := 20) (by simp; rfl) (by kernel_rfl) (by kernel_rfl) (by kernel_rfl) (Or.inl ⟨by rfl, fun w' hS => Or.inr ⟨33, #[.slice s.Au nu s.cu, .int .u64 (ro : Int), .int .i64 role], w', ?_, ?_⟩⟩) ?_
               rotate_left
               ·go_simp
                all_goals with_reducible rfl
               ·exact (HHX.out w' hS).mono fun e w2 h => ⟨by rw [h.1], h.2 ▸ hS⟩
               simp only [Act.put, List.setIfInBounds_toArray, List.set_cons_zero, List.set_cons_succ]
               refine det_take (v := ?_) (i := 26) (fuel := 19) (by simp; rfl) (by kernel_rfl) (by kernel_rfl) (by kernel_rfl) (Or.inl ⟨by rfl, fun w' hS => Or.inl ⟨w', ?_, hS⟩⟩) ?_
               rotate_left
               ·go_simp
                all_goals with_reducible rfl
               simp only [Act.put, List.setIfInBounds_toArray, List.set_cons_zero, List.set_cons_succ]
               refine det_take (v := ?_) (i := 27) (fuel := 18) (by simp; rfl) (by kernel_rfl) (by kernel_rfl) (by kernel_rfl) (Or.inl ⟨by rfl, fun w' hS => Or.inl ⟨w', ?_, hS⟩⟩) ?_
               rotate_left
               ·go_simp
                all_goals with_reducible rfl
               simp only [Act.put, List.setIfInBounds_toArray, List.set_cons_zero, List.set_cons_succ]
               refine det_take (v := ?_) (i := 28) (fuel := 17) (by simp; rfl) (by kernel_rfl) (by kernel_rfl) (by kernel_rfl) (Or.inl ⟨by rfl, fun w' hS => Or.inl ⟨w', ?_, hS⟩⟩) ?_
               rotate_left
               ·go_simp
                all_goals with_reducible rfl
               simp only [Act.put, List.setIfInBounds_toArray, List.set_cons_zero, List.set_cons_succ]
               refine det_take (v := ?_) (i := 29) (fuel := 16) (by simp; rfl) (by kernel_rfl) (by kernel_rfl) (by kernel_rfl) (Or.inl ⟨by rfl, fun w' hS => Or.inl ⟨w', ?_, hS⟩⟩) ?_
               rotate_left
               ·go_simp
                all_goals with_reducible rfl
               simp only [Act.put, List.setIfInBounds_toArray, List.set_cons_zero, List.set_cons_succ]
               refine det_take (v := ?_) (i := 30) (fuel := 15) (by simp; rfl) (by kernel_rfl) (by kernel_rfl) (by kernel_rfl) (Or.inl ⟨by rfl, fun w' hS => Or.inl ⟨w', ?_, hS⟩⟩) ?_
               rotate_left
               ·go_simp
                all_goals with_reducible rfl
               simp only [Act.put, List.setIfInBounds_toArray, List.set_cons_zero, List.set_cons_succ]
               refine det_take (v := ?_) (i := 31) (fuel := 14) (by simp; rfl) (by kernel_rfl) (by kernel_rfl) (by kernel_rfl) (Or.inl ⟨by rfl, fun w' hS => Or.inl ⟨w', ?_, hS⟩⟩) ?_
               rotate_left
               ·have zl := (HLB.out.below hS HLB.out.lt).lt
                go_simp
                all_goals with_reducible rfl
               simp only [Act.put, List.setIfInBounds_toArray, List.set_cons_zero, List.set_cons_succ]
               refine det_take (v := ?_) (i := 32) (fuel := 13) (by simp; rfl) (by kernel_rfl) (by kernel_rfl) (by kernel_rfl) (Or.inl ⟨by rfl, fun w' hS => Or.inl ⟨w', ?_, hS⟩⟩) ?_
               rotate_left
               ·have zl := (HLB.out.below hS HLB.out.lt).lt
                have z3 : w'.cell? ⟨gq, 3, none⟩ = some (.int .i64 ent) := ((HLB.out.below hS HLB.out.lt).cell 3).trans rfl
                go_simp
                all_goals with_reducible rfl
               simp only [Act.put, List.setIfInBounds_toArray, List.set_cons_zero, List.set_cons_succ]
               refine det_take (v := ?_) (i := 33) (fuel := 12) (by simp; rfl) (by kernel_rfl) (by kernel_rfl) (by kernel_rfl) (Or.inl ⟨by rfl, fun w' hS => Or.inl ⟨w', ?_, hS⟩⟩) ?_
               rotate_left
               ·go_simp
                all_goals with_reducible rfl
               simp only [Act.put, List.setIfInBounds_toArray, List.set_cons_zero, List.set_cons_succ]
               refine det_take (v := ?_) (i := 34) (fuel := 11) (by simp; rfl) (by kernel_rfl) (by kernel_rfl) (by kernel_rfl) (Or.inl ⟨by rfl, fun w' hS => Or.inl ⟨w', ?_, hS⟩⟩) ?_
               rotate_left
               ·go_simp
                all_goals with_reducible rfl
               simp only [Act.put, List.setIfInBounds_toArray, List.set_cons_zero, List.set_cons_succ]
               refine det_take (v := ?_) (i := 35) (fuel := 10) (by simp; rfl) (by kernel_rfl) (by kernel_rfl) (by kernel_rfl) (Or.inl ⟨by rfl, fun w' hS => Or.inl ⟨w', ?_, hS⟩⟩) ?_
               rotate_left
               ·go_simp
                all_goals with_reducible rfl
               simp only [Act.put, List.setIfInBounds_toArray, List.set_cons_zero, List.set_cons_succ]
               refine det_take (v := ?_) (i := 36) (fuel := 9) (by simp; rfl) (by kernel_rfl) (by kernel_rfl) (by kernel_rfl) (Or.inl ⟨by rfl, fun w' hS => Or.inl ⟨w', ?_, hS⟩⟩) ?_
               rotate_left
               ·go_simp
                all_goals with_reducible rfl
               simp only [Act.put, List.setIfInBounds_toArray, List.set_cons_zero, List.set_cons_succ]
               refine det_take (v := undef) (i := 37) (fuel := 8) (by simp; rfl) (by kernel_rfl) (by kernel_rfl) (by kernel_rfl) (Or.inr ⟨by rfl, by rfl⟩) ?_
               simp only [Act.put, List.setIfInBounds_toArray, List.set_cons_zero, List.set_cons_succ]
               refine det_take (v := undef) (i := 38) (fuel := 7) (by simp; rfl) (by kernel_rfl) (by kernel_rfl) (by kernel_rfl) (Or.inr ⟨by rfl, by rfl⟩) ?_
               simp only [Act.put, List.setIfInBounds_toArray, List.set_cons_zero, List.set_cons_succ]
               refine det_take (v := undef) (i := 39) (fuel := 6) (by simp; rfl) (by kernel_rfl) (by kernel_rfl) (by kernel_rfl) (Or.inr ⟨by rfl, by rfl⟩) ?_
               simp only [Act.put, List.setIfInBounds_toArray, List.set_cons_zero, List.set_cons_succ]
               refine det_take (v := undef) (i := 40) (fuel := 5) (by simp; rfl) (by kernel_rfl) (by kernel_rfl) (by kernel_rfl) (Or.inr ⟨by rfl, by rfl⟩) ?_
               simp only [Act.put, List.setIfInBounds_toArray, List.set_cons_zero, List.set_cons_succ]
               refine det_take (v := undef) (i := 41) (fuel := 4) (by simp; rfl) (by kernel_rfl) (by kernel_rfl) (by kernel_rfl) (Or.inr ⟨by rfl, by rfl⟩) ?_
               simp only [Act.put, List.setIfInBounds_toArray, List.set_cons_zero, List.set_cons_succ]
               refine det_take (v := undef) (i := 42) (fuel := 3) (by simp; rfl) (by kernel_rfl) (by kernel_rfl) (by kernel_rfl) (Or.inr ⟨by rfl, by rfl⟩) ?_
               simp only [Act.put, List.setIfInBounds_toArray, List.set_cons_zero, List.set_cons_succ]
               refine det_take (v := undef) (i := 43) (fuel := 2) (by simp; rfl) (by kernel_rfl) (by kernel_rfl) (by kernel_rfl) (Or.inr ⟨by rfl, by rfl⟩) ?_
               simp only [Act.put, List.setIfInBounds_toArray, List.set_cons_zero, List.set_cons_succ]
               refine det_take (v := ?_) (i := 44) (fuel := 1) (by simp; rfl) (by kernel_rfl) (by kernel_rfl) (by kernel_rfl) (Or.inl ⟨by rfl, fun w' hS => Or.inl ⟨w', ?_, hS⟩⟩) ?_
               rotate_left
               ·go_simp
                all_goals with_reducible rfl
               simp only [Act.put, List.setIfInBounds_toArray, List.set_cons_zero, List.set_cons_succ]
               refine det_take (v := ?_) (i := 45) (fuel := 0) (by simp; rfl) (by kernel_rfl) (by kernel_rfl) (by kernel_rfl) (Or.inl ⟨by rfl, fun w' hS => Or.inl ⟨w', ?_, hS⟩⟩) ?_
               rotate_left
               ·go_simp
                all_goals with_reducible rfl
               simp only [Act.put, List.setIfInBounds_toArray, List.set_cons_zero, List.set_cons_succ]
               refine det_done (by kernel_rfl) (fun V hV => ?_) _
               have HV9 := Lib.hid (HSw.out.trans (hV.mono HSw.out.size))
               have hN : tagM (spk P ro vb e) (P.rules.take (j + 1)) = max t1 tag := by rw [tagM_yes HGR.out HSZ.out, HT1.out]
               have e1 : decide (tagM (spk P ro vb e) (P.rules.take (j + 1)) ≠ 0) = true := decide_eq_true (by rw [hN]; have := HTG.out; have := HRG.out; omega)
               obtain ⟨b3, hb3⟩ : ∃ b, decide (tagM (spk P ro vb e) (P.rules.take (j + 1)) = 2) = b := ⟨_, rfl⟩
               have hb3' : b3 = (b2 || (tag == 2)) := by
                rw [← hb3, hN, ← HD2.out, Bool.eq_iff_iff, Bool.or_eq_true, decide_eq_true_eq, decide_eq_true_eq, beq_iff_eq]
                have := HTG.out
                have := HRG.out
                omega
               have HR9 := Lib.hid (And.intro e1 hb3)
               have u0 : V.cell? ⟨gq, 0, none⟩ = some (.int .i64 tag) := ((HLB.out.below hV HLB.out.lt).cell 0).trans rfl
               have ul := (HLB.out.below hV HLB.out.lt).lt
               obtain ⟨b4, hb4⟩ : ∃ b, (tag == 2) = b := ⟨_, rfl⟩
               have HB4 := Lib.hid hb4
               rw [hb4] at hb3'
               clear hN e1 hb3
               cases b2
               ·obtain rfl : b3 = b4 := by simpa using hb3'
                clear hb3'
                go_wp2
                go_roundw
                case rel => exact ⟨j + 1, HJ.out, by go_num, by rw [HR9.out.1], by rw [HR9.out.2]; first | done | rfl | exact congrArg Value.bool (HQT.out.symm.trans HB4.out), HV9.out⟩
                case measure => simp [intOf]; omega
               ·obtain rfl : b3 = true := by simpa using hb3'
                clear hb3'
                go_wp2
                go_roundw
                case rel => exact ⟨j + 1, HJ.out, by go_num, by rw [HR9.out.1], by rw [HR9.out.2], HV9.out⟩
                case measure => simp [intOf]; omega
              ·have hb6 : (ent == en) = false := by simp; omega
               have hp1 : ((p : Int) == 1) = false := by simp; omega
               have HSZ := Lib.hid (show spk P ro vb e ⟨tag, role, verb, ent, grp, line, neg, c0, c1, sc, toS, toL⟩ = false by rw [HSY.out]; rw [hee, decide_eq_false j3, Bool.and_false, Bool.and_false, Bool.and_false])
               clear j3 hee
               refine wp_region_det (S := fun V => Below W2.heap.size W2 V) (by kernel_rfl) (Below.refl W2.heap.size W2).drew ?_
               refine det_take (v := ?_) (i := 0) (fuel := 45) (by simp; rfl) (by kernel_rfl) (by kernel_rfl) (by kernel_rfl) (Or.inl ⟨by rfl, fun w' hS => Or.inl ⟨w', ?_, hS⟩⟩) ?_
               rotate_left
               ·have zl := (HLB.out.below hS HLB.out.lt).lt
                go_simp
                all_goals with_reducible rfl
               simp only [Act.put, List.setIfInBounds_toArray, List.set_cons_zero, List.set_cons_succ]
               refine det_take (v := ?_) (i := 1) (fuel := 44) (by simp; rfl) (by kernel_rfl) (by kernel_rfl) (by kernel_rfl) (Or.inl ⟨by rfl, fun w' hS => Or.inl ⟨w', ?_, hS⟩⟩) ?_
               rotate_left
               ·have zl := (HLB.out.below hS HLB.out.lt).lt
                have z0 : w'.cell? ⟨gq, 0, none⟩ = some (.int .i64 tag) := ((HLB.out.below hS HLB.out.lt).cell 0).trans rfl
                go_simp
                all_goals with_reducible rfl
               simp only [Act.put, List.setIfInBounds_toArray, List.set_cons_zero, List.set_cons_succ]
               refine det_take (v := ?_) (i := 2) (fuel := 43) (by simp; rfl) (by kernel_rfl) (by kernel_rfl) (by kernel_rfl) (Or.inl ⟨by rfl, fun w' hS => Or.inl ⟨w', ?_, hS⟩⟩) ?_
               rotate_left
               ·go_simp
                all_goals with_reducible rfl
               simp only [Act.put, List.setIfInBounds_toArray, List.set_cons_zero, List.set_cons_succ]
               refine det_take (v := ?_) (i := 3) (fuel := 42) (by simp; rfl) (by kernel_rfl) (by kernel_rfl) (by kernel_rfl) (Or.inl ⟨by rfl, fun w' hS => Or.inl ⟨w', ?_, hS⟩⟩) ?_
               rotate_left
               ·go_simp
                all_goals with_reducible rfl
               simp only [Act.put, List.setIfInBounds_toArray, List.set_cons_zero, List.set_cons_succ]
               refine det_take (v := undef) (i := 4) (fuel := 41) (by simp; rfl) (by kernel_rfl) (by kernel_rfl) (by kernel_rfl) (Or.inr ⟨by rfl, by rfl⟩) ?_
               simp only [Act.put, List.setIfInBounds_toArray, List.set_cons_zero, List.set_cons_succ]
               refine det_take (v := undef) (i := 5) (fuel := 40) (by simp; rfl) (by kernel_rfl) (by kernel_rfl) (by kernel_rfl) (Or.inr ⟨by rfl, by rfl⟩) ?_
               simp only [Act.put, List.setIfInBounds_toArray, List.set_cons_zero, List.set_cons_succ]
               refine det_take (v := undef) (i := 6) (fuel := 39) (by simp; rfl) (by kernel_rfl) (by kernel_rfl) (by kernel_rfl) (Or.inr ⟨by rfl, by rfl⟩) ?_
               simp only [Act.put, List.setIfInBounds_toArray, List.set_cons_zero, List.set_cons_succ]
               refine det_take (v := ?_) (i := 7) (fuel := 38) (by simp; rfl) (by kernel_rfl) (by kernel_rfl) (by kernel_rfl) (Or.inl ⟨by rfl, fun w' hS => Or.inl ⟨w', ?_, hS⟩⟩) ?_
               rotate_left
               ·go_simp
                all_goals with_reducible rfl
               simp only [Act.put, List.setIfInBounds_toArray, List.set_cons_zero, List.set_cons_succ]
               refine det_take (v := ?_) (i := 8) (fuel := 37) (by simp; rfl) (by kernel_rfl) (by kernel_rfl) (by kernel_rfl) (Or.inl ⟨by rfl, fun w' hS => Or.inl ⟨w', ?_, hS⟩⟩) ?_
               rotate_left
               ·go_simp
                all_goals with_reducible rfl
               simp only [Act.put, List.setIfInBounds_toArray, List.set_cons_zero, List.set_cons_succ]
               refine det_take (v := ?_) (i := 9) (fuel := 36) (by simp; rfl) (by kernel_rfl) (by kernel_rfl) (by kernel_rfl) (Or.inl ⟨by rfl, fun w' hS => Or.inl ⟨w', ?_, hS⟩⟩) ?_
               rotate_left
               ·have zl := (HLB.out.below hS HLB.out.lt).lt
                go_simp
                all_goals with_reducible rfl
               simp only [Act.put, List.setIfInBounds_toArray, List.set_cons_zero, List.set_cons_succ]
               refine det_take (v := ?_) (i := 10) (fuel := 35) (by simp; rfl) (by kernel_rfl) (by kernel_rfl) (by kernel_rfl) (Or.inl ⟨by rfl, fun w' hS => Or.inl ⟨w', ?_, hS⟩⟩) ?_
               rotate_left
               ·have zl := (HLB.out.below hS HLB.out.lt).lt
                have z2 : w'.cell? ⟨gq, 2, none⟩ = some (.int .i64 verb) := ((HLB.out.below hS HLB.out.lt).cell 2).trans rfl
                go_simp
                all_goals with_reducible rfl
               simp only [Act.put, List.setIfInBounds_toArray, List.set_cons_zero, List.set_cons_succ]
               refine det_take (v := ?_) (i := 11) (fuel := 34) (by simp; rfl) (by kernel_rfl) (by kernel_rfl) (by kernel_rfl) (Or.inl ⟨by rfl, fun w' hS => Or.inl ⟨w', ?_, hS⟩⟩) ?_
               rotate_left
               ·go_simp
                all_goals with_reducible rfl
               simp only [Act.put, List.setIfInBounds_toArray, List.set_cons_zero, List.set_cons_succ]
               refine det_take (v := ?_) (i := 12) (fuel := 33) (by simp; rfl) (by kernel_rfl) (by kernel_rfl) (by kernel_rfl) (Or.inl ⟨by rfl, fun w' hS => Or.inl ⟨w', ?_, hS⟩⟩) ?_
               rotate_left
               ·go_simp
                all_goals with_reducible rfl
               simp only [Act.put, List.setIfInBounds_toArray, List.set_cons_zero, List.set_cons_succ]
               refine det_take (v := ?_) (i := 13) (fuel := 32) (by simp; rfl) (by kernel_rfl) (by kernel_rfl) (by kernel_rfl) (Or.inl ⟨by rfl, fun w' hS => Or.inl ⟨w', ?_, hS⟩⟩) ?_
               rotate_left
               ·go_simp
                all_goals with_reducible rfl
               simp only [Act.put, List.setIfInBounds_toArray, List.set_cons_zero, List.set_cons_succ]
               refine det_take (v := ?_) (i := 14) (fuel := 31) (by simp; rfl) (by kernel_rfl) (by kernel_rfl) (by kernel_rfl) (Or.inl ⟨by rfl, fun w' hS => Or.inl ⟨w', ?_, hS⟩⟩) ?_
               rotate_left
               ·go_simp
                all_goals with_reducible rfl
               simp only [Act.put, List.setIfInBounds_toArray, List.set_cons_zero, List.set_cons_succ]
               refine det_take (v := ?_) (i := 15) (fuel := 30) (by simp; rfl) (by kernel_rfl) (by kernel_rfl) (by kernel_rfl) (Or.inl ⟨by rfl, fun w' hS => Or.inl ⟨w', ?_, hS⟩⟩) ?_
               rotate_left
               ·obtain ⟨lp, x0, x1, x2, x3, x4⟩ := PolBl.cells (Blk.below HPw.out hS (Blk.lt HPw.out))
                go_simp
                all_goals with_reducible rfl
               simp only [Act.put, List.setIfInBounds_toArray, List.set_cons_zero, List.set_cons_succ]
               refine det_take (v := ?_) (i := 16) (fuel := 29) (by simp; rfl) (by kernel_rfl) (by kernel_rfl) (by kernel_rfl) (Or.inl ⟨by rfl, fun w' hS => Or.inl ⟨w', ?_, hS⟩⟩) ?_
               rotate_left
               ·obtain ⟨lp, x0, x1, x2, x3, x4⟩ := PolBl.cells (Blk.below HPw.out hS (Blk.lt HPw.out))
                go_simp
                all_goals with_reducible rfl
               simp only [Act.put, List.setIfInBounds_toArray, List.set_cons_zero, List.set_cons_succ]
               refine det_take (v := ?_) (i := 17) (fuel := 28) (by simp; rfl) (by kernel_rfl) (by kernel_rfl) (by kernel_rfl) (Or.inl ⟨by rfl, fun w' hS => Or.inl ⟨w', ?_, hS⟩⟩) ?_
               rotate_left
               ·obtain ⟨lp, x0, x1, x2, x3, x4⟩ := PolBl.cells (Blk.below HPw.out hS (Blk.lt HPw.out))
                go_simp
                all_goals with_reducible rfl
               simp only [Act.put, List.setIfInBounds_toArray, List.set_cons_zero, List.set_cons_succ]
               refine det_take (v := ?_) (i := 18) (fuel := 27) (by simp; rfl) (by kernel_rfl) (by kernel_rfl) (by kernel_rfl) (Or.inl ⟨by rfl, fun w' hS => Or.inl ⟨w', ?_, hS⟩⟩) ?_
               rotate_left
               ·obtain ⟨lp, x0, x1, x2, x3, x4⟩ := PolBl.cells (Blk.below HPw.out hS (Blk.lt HPw.out))
                rw [HA2.out] at x2
                go_simp
                all_goals with_reducible rfl
               simp only [Act.put, List.setIfInBounds_toArray, List.set_cons_zero, List.set_cons_succ]
               refine det_take (v := ?_) (i := 19) (fuel := 26) (by simp; rfl) (by kernel_rfl) (by kernel_rfl) (by kernel_rfl) (Or.inl ⟨by rfl, fun w' hS => Or.inl ⟨w', ?_, hS⟩⟩) ?_
               rotate_left
               ·go_simp
                all_goals with_reducible rfl
               simp only [Act.put, List.setIfInBounds_toArray, List.set_cons_zero, List.set_cons_succ]
               refine det_take (v := ?_) (i := 20) (fuel := 25) (by simp; rfl) (by kernel_rfl) (by kernel_rfl) (by kernel_rfl) (Or.inl ⟨by rfl, fun w' hS => Or.inl ⟨w', ?_, hS⟩⟩) ?_
               rotate_left
               ·go_simp
                all_goals with_reducible rfl
               simp only [Act.put, List.setIfInBounds_toArray, List.set_cons_zero, List.set_cons_succ]
               refine det_take (v := ?_) (i := 21) (fuel := 24) (by simp; rfl) (by kernel_rfl) (by kernel_rfl) (by kernel_rfl) (Or.inl ⟨by rfl, fun w' hS => Or.inl ⟨w', ?_, hS⟩⟩) ?_
               rotate_left
               ·go_simp
                all_goals with_reducible rfl
               simp only [Act.put, List.setIfInBounds_toArray, List.set_cons_zero, List.set_cons_succ]
               refine det_take (v := ?_) (i := 22) (fuel := 23) (by simp; rfl) (by kernel_rfl) (by kernel_rfl) (by kernel_rfl) (Or.inl ⟨by rfl, fun w' hS => Or.inl ⟨w', ?_, hS⟩⟩) ?_
               rotate_left
               ·have y1 : w'.cell? ⟨g2, o2 + i * 3 + 2, none⟩ = some (.int .u64 (ro : Int)) := (hS.cell (p := ⟨g2, o2 + i * 3 + 2, none⟩) hgW).trans HD.out
                go_simp
                all_goals with_reducible rfl
               simp only [Act.put, List.setIfInBounds_toArray, List.set_cons_zero, List.set_cons_succ]
               refine det_take (v := ?_) (i := 23) (fuel := 22) (by simp; rfl) (by kernel_rfl) (by kernel_rfl) (by kernel_rfl) (Or.inl ⟨by rfl, fun w' hS => Or.inl ⟨w', ?_, hS⟩⟩) ?_
               rotate_left
               ·have zl := (HLB.out.below hS HLB.out.lt).lt
                go_simp
                all_goals with_reducible rfl
               simp only [Act.put, List.setIfInBounds_toArray, List.set_cons_zero, List.set_cons_succ]
               refine det_take (v := ?_) (i := 24) (fuel := 21) (by simp; rfl) (by kernel_rfl) (by kernel_rfl) (by kernel_rfl) (Or.inl ⟨by rfl, fun w' hS => Or.inl ⟨w', ?_, hS⟩⟩) ?_
               rotate_left
               ·have zl := (HLB.out.below hS HLB.out.lt).lt
                have z1 : w'.cell? ⟨gq, 1, none⟩ = some (.int .i64 role) := ((HLB.out.below hS HLB.out.lt).cell 1).trans rfl
                go_simp
                all_goals with_reducible rfl
               simp only [Act.put, List.setIfInBounds_toArray, List.set_cons_zero, List.set_cons_succ]
               refine det_take (v := ?_) (i := 25) (fuel := 20) (by simp; rfl) (by kernel_rfl) (by kernel_rfl) (by kernel_rfl) (Or.inl ⟨by rfl, fun w' hS => Or.inr ⟨33, #[.slice s.Au nu s.cu, .int .u64 (ro : Int), .int .i64 role], w', ?_, ?_⟩⟩) ?_
               rotate_left
               ·go_simp
                all_goals with_reducible rfl
               ·exact (HHX.out w' hS).mono fun e w2 h => ⟨by rw [h.1], h.2 ▸ hS⟩
               simp only [Act.put, List.setIfInBounds_toArray, List.set_cons_zero, List.set_cons_succ]
               refine det_take (v := ?_) (i := 26) (fuel := 19) (by simp; rfl) (by kernel_rfl) (by kernel_rfl) (by kernel_rfl) (Or.inl ⟨by rfl, fun w' hS => Or.inl ⟨w', ?_, hS⟩⟩) ?_
               rotate_left
               ·go_simp
                all_goals with_reducible rfl
               simp only [Act.put, List.setIfInBounds_toArray, List.set_cons_zero, List.set_cons_succ]
               refine det_take (v := ?_) (i := 27) (fuel := 18) (by simp; rfl) (by kernel_rfl) (by kernel_rfl) (by kernel_rfl) (Or.inl ⟨by rfl, fun w' hS => Or.inl ⟨w', ?_, hS⟩⟩) ?_
               rotate_left
               ·go_simp
                all_goals with_reducible rfl
               simp only [Act.put, List.setIfInBounds_toArray, List.set_cons_zero, List.set_cons_succ]
               refine det_take (v := ?_) (i := 28) (fuel := 17) (by simp; rfl) (by kernel_rfl) (by kernel_rfl) (by kernel_rfl) (Or.inl ⟨by rfl, fun w' hS => Or.inl ⟨w', ?_, hS⟩⟩) ?_
               rotate_left
               ·go_simp
                all_goals with_reducible rfl
               simp only [Act.put, List.setIfInBounds_toArray, List.set_cons_zero, List.set_cons_succ]
               refine det_take (v := ?_) (i := 29) (fuel := 16) (by simp; rfl) (by kernel_rfl) (by kernel_rfl) (by kernel_rfl) (Or.inl ⟨by rfl, fun w' hS => Or.inl ⟨w', ?_, hS⟩⟩) ?_
               rotate_left
               ·go_simp
                all_goals with_reducible rfl
               simp only [Act.put, List.setIfInBounds_toArray, List.set_cons_zero, List.set_cons_succ]
               refine det_take (v := ?_) (i := 30) (fuel := 15) (by simp; rfl) (by kernel_rfl) (by kernel_rfl) (by kernel_rfl) (Or.inl ⟨by rfl, fun w' hS => Or.inl ⟨w', ?_, hS⟩⟩) ?_
               rotate_left
               ·go_simp
                all_goals with_reducible rfl
               simp only [Act.put, List.setIfInBounds_toArray, List.set_cons_zero, List.set_cons_succ]
               refine det_take (v := ?_) (i := 31) (fuel := 14) (by simp; rfl) (by kernel_rfl) (by kernel_rfl) (by kernel_rfl) (Or.inl ⟨by rfl, fun w' hS => Or.inl ⟨w', ?_, hS⟩⟩) ?_
               rotate_left
               ·have zl := (HLB.out.below hS HLB.out.lt).lt
                go_simp
                all_goals with_reducible rfl
               simp only [Act.put, List.setIfInBounds_toArray, List.set_cons_zero, List.set_cons_succ]
               refine det_take (v := ?_) (i := 32) (fuel := 13) (by simp; rfl) (by kernel_rfl) (by kernel_rfl) (by kernel_rfl) (Or.inl ⟨by rfl, fun w' hS => Or.inl ⟨w', ?_, hS⟩⟩) ?_
               rotate_left
               ·have zl := (HLB.out.below hS HLB.out.lt).lt
                have z3 : w'.cell? ⟨gq, 3, none⟩ = some (.int .i64 ent) := ((HLB.out.below hS HLB.out.lt).cell 3).trans rfl
                go_simp
                all_goals with_reducible rfl
               simp only [Act.put, List.setIfInBounds_toArray, List.set_cons_zero, List.set_cons_succ]
               refine det_take (v := ?_) (i := 33) (fuel := 12) (by simp; rfl) (by kernel_rfl) (by kernel_rfl) (by kernel_rfl) (Or.inl ⟨by rfl, fun w' hS => Or.inl ⟨w', ?_, hS⟩⟩) ?_
               rotate_left
               ·go_simp
                all_goals with_reducible rfl
               simp only [Act.put, List.setIfInBounds_toArray, List.set_cons_zero, List.set_cons_succ]
               refine det_take (v := ?_) (i := 34) (fuel := 11) (by simp; rfl) (by kernel_rfl) (by kernel_rfl) (by kernel_rfl) (Or.inl ⟨by rfl, fun w' hS => Or.inl ⟨w', ?_, hS⟩⟩) ?_
               rotate_left
               ·go_simp
                all_goals with_reducible rfl
               simp only [Act.put, List.setIfInBounds_toArray, List.set_cons_zero, List.set_cons_succ]
               refine det_take (v := ?_) (i := 35) (fuel := 10) (by simp; rfl) (by kernel_rfl) (by kernel_rfl) (by kernel_rfl) (Or.inl ⟨by rfl, fun w' hS => Or.inl ⟨w', ?_, hS⟩⟩) ?_
               rotate_left
               ·go_simp
                all_goals with_reducible rfl
               simp only [Act.put, List.setIfInBounds_toArray, List.set_cons_zero, List.set_cons_succ]
               refine det_take (v := ?_) (i := 36) (fuel := 9) (by simp; rfl) (by kernel_rfl) (by kernel_rfl) (by kernel_rfl) (Or.inl ⟨by rfl, fun w' hS => Or.inl ⟨w', ?_, hS⟩⟩) ?_
               rotate_left
               ·go_simp
                all_goals with_reducible rfl
               simp only [Act.put, List.setIfInBounds_toArray, List.set_cons_zero, List.set_cons_succ]
               refine det_take (v := ?_) (i := 37) (fuel := 8) (by simp; rfl) (by kernel_rfl) (by kernel_rfl) (by kernel_rfl) (Or.inl ⟨by rfl, fun w' hS => Or.inl ⟨w', ?_, hS⟩⟩) ?_
               rotate_left
               ·go_simp
                all_goals with_reducible rfl
               simp only [Act.put, List.setIfInBounds_toArray, List.set_cons_zero, List.set_cons_succ]
               refine det_take (v := ?_) (i := 38) (fuel := 7) (by simp; rfl) (by kernel_rfl) (by kernel_rfl) (by kernel_rfl) (Or.inl ⟨by rfl, fun w' hS => Or.inl ⟨w', ?_, hS⟩⟩) ?_
               rotate_left
               ·go_simp
                all_goals with_reducible rfl
               simp only [Act.put, List.setIfInBounds_toArray, List.set_cons_zero, List.set_cons_succ]
               refine det_take (v := ?_) (i := 39) (fuel := 6) (by simp; rfl) (by kernel_rfl) (by kernel_rfl) (by kernel_rfl) (Or.inl ⟨by rfl, fun w' hS => Or.inl ⟨w', ?_, hS⟩⟩) ?_
               rotate_left
               ·go_simp
                all_goals with_reducible rfl
               simp only [Act.put, List.setIfInBounds_toArray, List.set_cons_zero, List.set_cons_succ]
               refine det_take (v := undef) (i := 40) (fuel := 5) (by simp; rfl) (by kernel_rfl) (by kernel_rfl) (by kernel_rfl) (Or.inr ⟨by rfl, by rfl⟩) ?_
               simp only [Act.put, List.setIfInBounds_toArray, List.set_cons_zero, List.set_cons_succ]
               refine det_take (v := undef) (i := 41) (fuel := 4) (by simp; rfl) (by kernel_rfl) (by kernel_rfl) (by kernel_rfl) (Or.inr ⟨by rfl, by rfl⟩) ?_
               simp only [Act.put, List.setIfInBounds_toArray, List.set_cons_zero, List.set_cons_succ]
               refine det_take (v := undef) (i := 42) (fuel := 3) (by simp; rfl) (by kernel_rfl) (by kernel_rfl) (by kernel_rfl) (Or.inr ⟨by rfl, by rfl⟩) ?_
               simp only [Act.put, List.setIfInBounds_toArray, List.set_cons_zero, List.set_cons_succ]
               refine det_take (v := ?_) (i := 43) (fuel := 2) (by simp; rfl) (by kernel_rfl) (by kernel_rfl) (by kernel_rfl) (Or.inl ⟨by rfl, fun w' hS => Or.inl ⟨w', ?_, hS⟩⟩) ?_
               rotate_left
               ·go_simp
                all_goals with_reducible rfl
               simp only [Act.put, List.setIfInBounds_toArray, List.set_cons_zero, List.set_cons_succ]
               refine det_take (v := ?_) (i := 44) (fuel := 1) (by simp; rfl) (by kernel_rfl) (by kernel_rfl) (by kernel_rfl) (Or.inl ⟨by rfl, fun w' hS => Or.inl ⟨w', ?_, hS⟩⟩) ?_
               rotate_left
               ·go_simp
                all_goals with_reducible rfl
               simp only [Act.put, List.setIfInBounds_toArray, List.set_cons_zero, List.set_cons_succ]
               refine det_take (v := ?_) (i := 45) (fuel := 0) (by simp; rfl) (by kernel_rfl) (by kernel_rfl) (by kernel_rfl) (Or.inl ⟨by rfl, fun w' hS => Or.inl ⟨w', ?_, hS⟩⟩) ?_
               rotate_left
               ·go_simp
                all_goals with_reducible rfl
               simp only [Act.put, List.setIfInBounds_toArray, List.set_cons_zero, List.set_cons_succ]
               refine det_done (by kernel_rfl) (fun V hV => ?_) _
               have HV9 := Lib.hid (HSw.out.trans (hV.mono HSw.out.size))
               have hN : tagM (spk P ro vb e) (P.rules.take (j + 1)) = t1 := by rw [tagM_no HGR.out HSZ.out, HT1.out]
               have HR9 := Lib.hid (And.intro (show decide (tagM (spk P ro vb e) (P.rules.take (j + 1)) ≠ 0) = b1 by rw [hN]; exact HD1.out) (show decide (tagM (spk P ro vb e) (P.rules.take (j + 1)) = 2) = b2 by rw [hN]; exact HD2.out))
               clear hN
               go_wp2
               go_roundw
               case rel => exact ⟨j + 1, HJ.out, by go_num, by rw [HR9.out.1], by rw [HR9.out.2], HV9.out⟩
               case measure => simp [intOf]; omega
             ·have hp0 : ((p : Int) == 0) = false := by simp; omega
              have hp1 : ((p : Int) == 1) = true := by simp; omega
              have hee : e = -1 := by have := HE.out; omega
              by_cases j3 : ent = -1
              ·have hb6 : (ent == -1) = true := by simp; omega
               have HSZ := Lib.hid (show spk P ro vb e ⟨tag, role, verb, ent, grp, line, neg, c0, c1, sc, toS, toL⟩ = true by rw [HSY.out]; rw [decide_eq_true (show tag = 1 ∨ tag = 2 from by have := HTG.out; omega), decide_eq_true J1.out, hee, decide_eq_true j3]; rfl)
               clear j3 hee
               refine wp_region_det (S := fun V => Below W2.heap.size W2 V) (by kernel_rfl) (Below.refl W2.heap.size W2).drew ?_
               refine det_take (v := ?_) (i := 0) (fuel := 45) (by simp; rfl) (by kernel_rfl) (by kernel_rfl) (by kernel_rfl) (Or.inl ⟨by rfl, fun w' hS => Or.inl ⟨w', ?_, hS⟩⟩) ?_
               rotate_left
               ·have zl := (HLB.out.below hS HLB.out.lt).lt
                go_simp
                all_goals with_reducible rfl
               simp only [Act.put, List.setIfInBounds_toArray, List.set_cons_zero, List.set_cons_succ]
               refine det_take (v := ?_) (i := 1) (fuel := 44) (by simp; rfl) (by kernel_rfl) (by kernel_rfl) (by kernel_rfl) (Or.inl ⟨by rfl, fun w' hS => Or.inl ⟨w', ?_, hS⟩⟩) ?_
               rotate_left
               ·have zl := (HLB.out.below hS HLB.out.lt).lt
                have z0 : w'.cell? ⟨gq, 0, none⟩ = some (.int .i64 tag) := ((HLB.out.below hS HLB.out.lt).cell 0).trans rfl
                go_simp
                all_goals with_reducible rfl
               simp only [Act.put, List.setIfInBounds_toArray, List.set_cons_zero, List.set_cons_succ]
               refine det_take (v := ?_) (i := 2) (fuel := 43) (by simp; rfl) (by kernel_rfl) (by kernel_rfl) (by kernel_rfl) (Or.inl ⟨by rfl, fun w' hS => Or.inl ⟨w', ?_, hS⟩⟩) ?_
               rotate_left
               ·go_simp
                all_goals with_reducible rfl
               simp only [Act.put, List.setIfInBounds_toArray, List.set_cons_zero, List.set_cons_succ]
               refine det_take (v := ?_) (i := 3) (fuel := 42) (by simp; rfl) (by kernel_rfl) (by kernel_rfl) (by kernel_rfl) (Or.inl ⟨by rfl, fun w' hS => Or.inl ⟨w', ?_, hS⟩⟩) ?_
               rotate_left
               ·go_simp
                all_goals with_reducible rfl
               simp only [Act.put, List.setIfInBounds_toArray, List.set_cons_zero, List.set_cons_succ]
               refine det_take (v := undef) (i := 4) (fuel := 41) (by simp; rfl) (by kernel_rfl) (by kernel_rfl) (by kernel_rfl) (Or.inr ⟨by rfl, by rfl⟩) ?_
               simp only [Act.put, List.setIfInBounds_toArray, List.set_cons_zero, List.set_cons_succ]
               refine det_take (v := undef) (i := 5) (fuel := 40) (by simp; rfl) (by kernel_rfl) (by kernel_rfl) (by kernel_rfl) (Or.inr ⟨by rfl, by rfl⟩) ?_
               simp only [Act.put, List.setIfInBounds_toArray, List.set_cons_zero, List.set_cons_succ]
               refine det_take (v := undef) (i := 6) (fuel := 39) (by simp; rfl) (by kernel_rfl) (by kernel_rfl) (by kernel_rfl) (Or.inr ⟨by rfl, by rfl⟩) ?_
               simp only [Act.put, List.setIfInBounds_toArray, List.set_cons_zero, List.set_cons_succ]
               refine det_take (v := ?_) (i := 7) (fuel := 38) (by simp; rfl) (by kernel_rfl) (by kernel_rfl) (by kernel_rfl) (Or.inl ⟨by rfl, fun w' hS => Or.inl ⟨w', ?_, hS⟩⟩) ?_
               rotate_left
               ·go_simp
                all_goals with_reducible rfl
               simp only [Act.put, List.setIfInBounds_toArray, List.set_cons_zero, List.set_cons_succ]
               refine det_take (v := ?_) (i := 8) (fuel := 37) (by simp; rfl) (by kernel_rfl) (by kernel_rfl) (by kernel_rfl) (Or.inl ⟨by rfl, fun w' hS => Or.inl ⟨w', ?_, hS⟩⟩) ?_
               rotate_left
               ·go_simp
                all_goals with_reducible rfl
               simp only [Act.put, List.setIfInBounds_toArray, List.set_cons_zero, List.set_cons_succ]
               refine det_take (v := ?_) (i := 9) (fuel := 36) (by simp; rfl) (by kernel_rfl) (by kernel_rfl) (by kernel_rfl) (Or.inl ⟨by rfl, fun w' hS => Or.inl ⟨w', ?_, hS⟩⟩) ?_
               rotate_left
               ·have zl := (HLB.out.below hS HLB.out.lt).lt
                go_simp
                all_goals with_reducible rfl
               simp only [Act.put, List.setIfInBounds_toArray, List.set_cons_zero, List.set_cons_succ]
               refine det_take (v := ?_) (i := 10) (fuel := 35) (by simp; rfl) (by kernel_rfl) (by kernel_rfl) (by kernel_rfl) (Or.inl ⟨by rfl, fun w' hS => Or.inl ⟨w', ?_, hS⟩⟩) ?_
               rotate_left
               ·have zl := (HLB.out.below hS HLB.out.lt).lt
                have z2 : w'.cell? ⟨gq, 2, none⟩ = some (.int .i64 verb) := ((HLB.out.below hS HLB.out.lt).cell 2).trans rfl
                go_simp
                all_goals with_reducible rfl
               simp only [Act.put, List.setIfInBounds_toArray, List.set_cons_zero, List.set_cons_succ]
               refine det_take (v := ?_) (i := 11) (fuel := 34) (by simp; rfl) (by kernel_rfl) (by kernel_rfl) (by kernel_rfl) (Or.inl ⟨by rfl, fun w' hS => Or.inl ⟨w', ?_, hS⟩⟩) ?_
               rotate_left
               ·go_simp
                all_goals with_reducible rfl
               simp only [Act.put, List.setIfInBounds_toArray, List.set_cons_zero, List.set_cons_succ]
               refine det_take (v := ?_) (i := 12) (fuel := 33) (by simp; rfl) (by kernel_rfl) (by kernel_rfl) (by kernel_rfl) (Or.inl ⟨by rfl, fun w' hS => Or.inl ⟨w', ?_, hS⟩⟩) ?_
               rotate_left
               ·go_simp
                all_goals with_reducible rfl
               simp only [Act.put, List.setIfInBounds_toArray, List.set_cons_zero, List.set_cons_succ]
               refine det_take (v := ?_) (i := 13) (fuel := 32) (by simp; rfl) (by kernel_rfl) (by kernel_rfl) (by kernel_rfl) (Or.inl ⟨by rfl, fun w' hS => Or.inl ⟨w', ?_, hS⟩⟩) ?_
               rotate_left
               ·go_simp
                all_goals with_reducible rfl
               simp only [Act.put, List.setIfInBounds_toArray, List.set_cons_zero, List.set_cons_succ]
               refine det_take (v := ?_) (i := 14) (fuel := 31) (by simp; rfl) (by kernel_rfl) (by kernel_rfl) (by kernel_rfl) (Or.inl ⟨by rfl, fun w' hS => Or.inl ⟨w', ?_, hS⟩⟩) ?_
               rotate_left
               ·go_simp
                all_goals with_reducible rfl
               simp only [Act.put, List.setIfInBounds_toArray, List.set_cons_zero, List.set_cons_succ]
               refine det_take (v := ?_) (i := 15) (fuel := 30) (by simp; rfl) (by kernel_rfl) (by kernel_rfl) (by kernel_rfl) (Or.inl ⟨by rfl, fun w' hS => Or.inl ⟨w', ?_, hS⟩⟩) ?_
               rotate_left
               ·obtain ⟨lp, x0, x1, x2, x3, x4⟩ := PolBl.cells (Blk.below HPw.out hS (Blk.lt HPw.out))
                go_simp
                all_goals with_reducible rfl
               simp only [Act.put, List.setIfInBounds_toArray, List.set_cons_zero, List.set_cons_succ]
               refine det_take (v := ?_) (i := 16) (fuel := 29) (by simp; rfl) (by kernel_rfl) (by kernel_rfl) (by kernel_rfl) (Or.inl ⟨by rfl, fun w' hS => Or.inl ⟨w', ?_, hS⟩⟩) ?_
               rotate_left
               ·obtain ⟨lp, x0, x1, x2, x3, x4⟩ := PolBl.cells (Blk.below HPw.out hS (Blk.lt HPw.out))
                go_simp
                all_goals with_reducible rfl
               simp only [Act.put, List.setIfInBounds_toArray, List.set_cons_zero, List.set_cons_succ]
               refine det_take (v := ?_) (i := 17) (fuel := 28) (by simp; rfl) (by kernel_rfl) (by kernel_rfl) (by kernel_rfl) (Or.inl ⟨by rfl, fun w' hS => Or.inl ⟨w', ?_, hS⟩⟩) ?_
               rotate_left
               ·obtain ⟨lp, x0, x1, x2, x3, x4⟩ := PolBl.cells (Blk.below HPw.out hS (Blk.lt HPw.out))
                go_simp
                all_goals with_reducible rfl
               simp only [Act.put, List.setIfInBounds_toArray, List.set_cons_zero, List.set_cons_succ]
               refine det_take (v := ?_) (i := 18) (fuel := 27) (by simp; rfl) (by kernel_rfl) (by kernel_rfl) (by kernel_rfl) (Or.inl ⟨by rfl, fun w' hS => Or.inl ⟨w', ?_, hS⟩⟩) ?_
               rotate_left
               ·obtain ⟨lp, x0, x1, x2, x3, x4⟩ := PolBl.cells (Blk.below HPw.out hS (Blk.lt HPw.out))
                rw [HA2.out] at x2
                go_simp
                all_goals with_reducible rfl
               simp only [Act.put, List.setIfInBounds_toArray, List.set_cons_zero, List.set_cons_succ]
               refine det_take (v := ?_) (i := 19) (fuel := 26) (by simp; rfl) (by kernel_rfl) (by kernel_rfl) (by kernel_rfl) (Or.inl ⟨by rfl, fun w' hS => Or.inl ⟨w', ?_, hS⟩⟩) ?_
               rotate_left
               ·go_simp
                all_goals with_reducible rfl
               simp only [Act.put, List.setIfInBounds_toArray, List.set_cons_zero, List.set_cons_succ]
               refine det_take (v := ?_) (i := 20) (fuel := 25) (by simp; rfl) (by kernel_rfl) (by kernel_rfl) (by kernel_rfl) (Or.inl ⟨by rfl, fun w' hS => Or.inl ⟨w', ?_, hS⟩⟩) ?_
               rotate_left
               ·go_simp
                all_goals with_reducible rfl
               simp only [Act.put, List.setIfInBounds_toArray, List.set_cons_zero, List.set_cons_succ]
               refine det_take (v := ?_) (i := 21) (fuel := 24) (by simp; rfl) (by kernel_rfl) (by kernel_rfl) (by kernel_rfl) (Or.inl ⟨by rfl, fun w' hS => Or.inl ⟨w', ?_, hS⟩⟩) ?_
               rotate_left
               ·go_simp
                all_goals with_reducible rfl
               simp only [Act.put, List.setIfInBounds_toArray, List.set_cons_zero, List.set_cons_succ]
               refine det_take (v := ?_) (i := 22) (fuel := 23) (by simp; rfl) (by kernel_rfl) (by kernel_rfl) (by kernel_rfl) (Or.inl ⟨by rfl, fun w' hS => Or.inl ⟨w', ?_, hS⟩⟩) ?_
               rotate_left
               ·have y1 : w'.cell? ⟨g2, o2 + i * 3 + 2, none⟩ = some (.int .u64 (ro : Int)) := (hS.cell (p := ⟨g2, o2 + i * 3 + 2, none⟩) hgW).trans HD.out
                go_simp
                all_goals with_reducible rfl
               simp only [Act.put, List.setIfInBounds_toArray, List.set_cons_zero, List.set_cons_succ]
               refine det_take (v := ?_) (i := 23) (fuel := 22) (by simp; rfl) (by kernel_rfl) (by kernel_rfl) (by kernel_rfl) (Or.inl ⟨by rfl, fun w' hS => Or.inl ⟨w', ?_, hS⟩⟩) ?_
               rotate_left
               ·have zl := (HLB.out.below hS HLB.out.lt).lt
                go_simp
                all_goals with_reducible rfl
               simp only [Act.put, List.setIfInBounds_toArray, List.set_cons_zero, List.set_cons_succ]
               refine det_take (v := ?_) (i := 24) (fuel := 21) (by simp; rfl) (by kernel_rfl) (by kernel_rfl) (by kernel_rfl) (Or.inl ⟨by rfl, fun w' hS => Or.inl ⟨w', ?_, hS⟩⟩) ?_
               rotate_left
               ·have zl := (HLB.out.below hS HLB.out.lt).lt
                have z1 : w'.cell? ⟨gq, 1, none⟩ = some (.int .i64 role) := ((HLB.out.below hS HLB.out.lt).cell 1).trans rfl
                go_simp
                all_goals with_reducible rfl
               simp only [Act.put, List.setIfInBounds_toArray, List.set_cons_zero, List.set_cons_succ]
               refine det_take (v := ?_) (i := 25) (fuel := 20) (by simp; rfl) (by kernel_rfl) (by kernel_rfl) (by kernel_rfl) (Or.inl ⟨by rfl, fun w' hS => Or.inr ⟨33, #[.slice s.Au nu s.cu, .int .u64 (ro : Int), .int .i64 role], w', ?_, ?_⟩⟩) ?_
               rotate_left
               ·go_simp
                all_goals with_reducible rfl
               ·exact (HHX.out w' hS).mono fun e w2 h => ⟨by rw [h.1], h.2 ▸ hS⟩
               simp only [Act.put, List.setIfInBounds_toArray, List.set_cons_zero, List.set_cons_succ]
               refine det_take (v := ?_) (i := 26) (fuel := 19) (by simp; rfl) (by kernel_rfl) (by kernel_rfl) (by kernel_rfl) (Or.inl ⟨by rfl, fun w' hS => Or.inl ⟨w', ?_, hS⟩⟩) ?_
               rotate_left
               ·go_simp
                all_goals with_reducible rfl
               simp only [Act.put, List.setIfInBounds_toArray, List.set_cons_zero, List.set_cons_succ]
               refine det_take (v := ?_) (i := 27) (fuel := 18) (by simp; rfl) (by kernel_rfl) (by kernel_rfl) (by kernel_rfl) (Or.inl ⟨by rfl, fun w' hS => Or.inl ⟨w', ?_, hS⟩⟩) ?_
               rotate_left
               ·go_simp
                all_goals with_reducible rfl
               simp only [Act.put, List.setIfInBounds_toArray, List.set_cons_zero, List.set_cons_succ]
               refine det_take (v := ?_) (i := 28) (fuel := 17) (by simp; rfl) (by kernel_rfl) (by kernel_rfl) (by kernel_rfl) (Or.inl ⟨by rfl, fun w' hS => Or.inl ⟨w', ?_, hS⟩⟩) ?_
               rotate_left
               ·go_simp
                all_goals with_reducible rfl
               simp only [Act.put, List.setIfInBounds_toArray, List.set_cons_zero, List.set_cons_succ]
               refine det_take (v := ?_) (i := 29) (fuel := 16) (by simp; rfl) (by kernel_rfl) (by kernel_rfl) (by kernel_rfl) (Or.inl ⟨by rfl, fun w' hS => Or.inl ⟨w', ?_, hS⟩⟩) ?_
               rotate_left
               ·go_simp
                all_goals with_reducible rfl
               simp only [Act.put, List.setIfInBounds_toArray, List.set_cons_zero, List.set_cons_succ]
               refine det_take (v := ?_) (i := 30) (fuel := 15) (by simp; rfl) (by kernel_rfl) (by kernel_rfl) (by kernel_rfl) (Or.inl ⟨by rfl, fun w' hS => Or.inl ⟨w', ?_, hS⟩⟩) ?_
               rotate_left
               ·go_simp
                all_goals with_reducible rfl
               simp only [Act.put, List.setIfInBounds_toArray, List.set_cons_zero, List.set_cons_succ]
               refine det_take (v := undef) (i := 31) (fuel := 14) (by simp; rfl) (by kernel_rfl) (by kernel_rfl) (by kernel_rfl) (Or.inr ⟨by rfl, by rfl⟩) ?_
               simp only [Act.put, List.setIfInBounds_toArray, List.set_cons_zero, List.set_cons_succ]
               refine det_take (v := undef) (i := 32) (fuel := 13) (by simp; rfl) (by kernel_rfl) (by kernel_rfl) (by kernel_rfl) (Or.inr ⟨by rfl, by rfl⟩) ?_
               simp only [Act.put, List.setIfInBounds_toArray, List.set_cons_zero, List.set_cons_succ]
               refine det_take (v := undef) (i := 33) (fuel := 12) (by simp; rfl) (by kernel_rfl) (by kernel_rfl) (by kernel_rfl) (Or.inr ⟨by rfl, by rfl⟩) ?_
               simp only [Act.put, List.setIfInBounds_toArray, List.set_cons_zero, List.set_cons_succ]
               refine det_take (v := undef) (i := 34) (fuel := 11) (by simp; rfl) (by kernel_rfl) (by kernel_rfl) (by kernel_rfl) (Or.inr ⟨by rfl, by rfl⟩) ?_
               simp only [Act.put, List.setIfInBounds_toArray, List.set_cons_zero, List.set_cons_succ]
               refine det_take (v := ?_) (i := 35) (fuel := 10) (by simp; rfl) (by kernel_rfl) (by kernel_rfl) (by kernel_rfl) (Or.inl ⟨by rfl, fun w' hS => Or.inl ⟨w', ?_, hS⟩⟩) ?_
               rotate_left
               ·go_simp
                all_goals with_reducible rfl
               simp only [Act.put, List.setIfInBounds_toArray, List.set_cons_zero, List.set_cons_succ]
               refine det_take (v := ?_) (i := 36) (fuel := 9) (by simp; rfl) (by kernel_rfl) (by kernel_rfl) (by kernel_rfl) (Or.inl ⟨by rfl, fun w' hS => Or.inl ⟨w', ?_, hS⟩⟩) ?_
               rotate_left
               ·go_simp
                all_goals with_reducible rfl
               simp only [Act.put, List.setIfInBounds_toArray, List.set_cons_zero, List.set_cons_succ]
               refine det_take (v := ?_) (i := 37) (fuel := 8) (by simp; rfl) (by kernel_rfl) (by kernel_rfl) (by kernel_rfl) (Or.inl ⟨by rfl, fun w' hS => Or.inl ⟨w', ?_, hS⟩⟩) ?_
               rotate_left
               ·go_simp
                all_goals with_reducible rfl
               simp only [Act.put, List.setIfInBounds_toArray, List.set_cons_zero, List.set_cons_succ]
               refine det_take (v := ?_) (i := 38) (fuel := 7) (by simp; rfl) (by kernel_rfl) (by kernel_rfl) (by kernel_rfl) (Or.inl ⟨by rfl, fun w' hS => Or.inl ⟨w', ?_, hS⟩⟩) ?_
               rotate_left
               ·go_simp
                all_goals with_reducible rfl
               simp only [Act.put, List.setIfInBounds_toArray, List.set_cons_zero, List.set_cons_succ]
               refine det_take (v := ?_) (i := 39) (fuel := 6) (by simp; rfl) (by kernel_rfl) (by kernel_rfl) (by kernel_rfl) (Or.inl ⟨by rfl, fun w' hS => Or.inl ⟨w', ?_, hS⟩⟩) ?_
               rotate_left
               ·go_simp
                all_goals with_reducible rfl
               simp only [Act.put, List.setIfInBounds_toArray, List.set_cons_zero, List.set_cons_succ]
               refine det_take (v := ?_) (i := 40) (fuel := 5) (by simp; rfl) (by kernel_rfl) (by kernel_rfl) (by kernel_rfl) (Or.inl ⟨by rfl, fun w' hS => Or.inl ⟨w', ?_, hS⟩⟩) ?_
               rotate_left
               ·have zl := (HLB.out.below hS HLB.out.lt).lt
                go_simp
                all_goals with_reducible rfl
               simp only [Act.put, List.setIfInBounds_toArray, List.set_cons_zero, List.set_cons_succ]
               refine det_take (v := ?_) (i := 41) (fuel := 4) (by simp; rfl) (by kernel_rfl) (by kernel_rfl) (by kernel_rfl) (Or.inl ⟨by rfl, fun w' hS => Or.inl ⟨w', ?_, hS⟩⟩) ?_
               rotate_left
               ·have zl := (HLB.out.below hS HLB.out.lt).lt
                have z3 : w'.cell? ⟨gq, 3, none⟩ = some (.int .i64 ent) := ((HLB.out.below hS HLB.out.lt).cell 3).trans rfl
                go_simp
                all_goals with_reducible rfl
               simp only [Act.put, List.setIfInBounds_toArray, List.set_cons_zero, List.set_cons_succ]
               refine det_take (v := ?_) (i := 42) (fuel := 3) (by simp; rfl) (by kernel_rfl) (by kernel_rfl) (by kernel_rfl) (Or.inl ⟨by rfl, fun w' hS => Or.inl ⟨w', ?_, hS⟩⟩) ?_
               rotate_left
               ·go_simp
                all_goals with_reducible rfl
               simp only [Act.put, List.setIfInBounds_toArray, List.set_cons_zero, List.set_cons_succ]
               refine det_take (v := ?_) (i := 43) (fuel := 2) (by simp; rfl) (by kernel_rfl) (by kernel_rfl) (by kernel_rfl) (Or.inl ⟨by rfl, fun w' hS => Or.inl ⟨w', ?_, hS⟩⟩) ?_
               rotate_left
               ·go_simp
                all_goals with_reducible rfl
               simp only [Act.put, List.setIfInBounds_toArray, List.set_cons_zero, List.set_cons_succ]
               refine det_take (v := ?_) (i := 44) (fuel := 1) (by simp; rfl) (by kernel_rfl) (by kernel_rfl) (by kernel_rfl) (Or.inl ⟨by rfl, fun w' hS => Or.inl ⟨w', ?_, hS⟩⟩) ?_
               rotate_left
               ·go_simp
                all_goals with_reducible rfl
               simp only [Act.put, List.setIfInBounds_toArray, List.set_cons_zero, List.set_cons_succ]
               refine det_take (v := ?_) (i := 45) (fuel := 0) (by simp; rfl) (by kernel_rfl) (by kernel_rfl) (by kernel_rfl) (Or.inl ⟨by rfl, fun w' hS => Or.inl ⟨w', ?_, hS⟩⟩) ?_
               rotate_left
               ·go_simp
                all_goals with_reducible rfl
               simp only [Act.put, List.setIfInBounds_toArray, List.set_cons_zero, List.set_cons_succ]
               refine det_done (by kernel_rfl) (fun V hV => ?_) _
               have HV9 := Lib.hid (HSw.out.trans (hV.mono HSw.out.size))
               have hN : tagM (spk P ro vb e) (P.rules.take (j + 1)) = max t1 tag := by rw [tagM_yes HGR.out HSZ.out, HT1.out]
               have e1 : decide (tagM (spk P ro vb e) (P.rules.take (j + 1)) ≠ 0) = true := decide_eq_true (by rw [hN]; have := HTG.out; have := HRG.out; omega)
               obtain ⟨b3, hb3⟩ : ∃ b, decide (tagM (spk P ro vb e) (P.rules.take (j + 1)) = 2) = b := ⟨_, rfl⟩
               have hb3' : b3 = (b2 || (tag == 2)) := by
                rw [← hb3, hN, ← HD2.out, Bool.eq_iff_iff, Bool.or_eq_true, decide_eq_true_eq, decide_eq_true_eq, beq_iff_eq]
                have := HTG.out
                have := HRG.out
                omega
               have HR9 := Lib.hid (And.intro e1 hb3)
               have u0 : V.cell? ⟨gq, 0, none⟩ = some (.int .i64 tag) := ((HLB.out.below hV HLB.out.lt).cell 0).trans rfl
               have ul := (HLB.out.below hV HLB.out.lt).lt
               obtain ⟨b4, hb4⟩ : ∃ b, (tag == 2) = b := ⟨_, rfl⟩
               have HB4 := Lib.hid hb4
               rw [hb4] at hb3'
               clear hN e1 hb3
               cases b2
               ·obtain rfl : b3 = b4 := by simpa using hb3'
                clear hb3'
                go_wp2
                go_roundw
                case rel => exact ⟨j + 1, HJ.out, by go_num, by rw [HR9.out.1], by rw [HR9.out.2]; first | done | rfl | exact congrArg Value.bool (HQT.out.symm.trans HB4.out), HV9.out⟩
                case measure => simp [intOf]; omega
               ·obtain rfl : b3 = true := by simpa using hb3'
                clear hb3'
                go_wp2
                go_roundw
                case rel => exact ⟨j + 1, HJ.out, by go_num, by rw [HR9.out.1], by rw [HR9.out.2], HV9.out⟩
                case measure => simp [intOf]; omega
              ·have hb6 : (ent == -1) = false := by simp; omega
               have HSZ := Lib.hid (show spk P ro vb e ⟨tag, role, verb, ent, grp, line, neg, c0, c1, sc, toS, toL⟩ = false by rw [HSY.out]; rw [hee, decide_eq_false j3, Bool.and_false, Bool.and_false, Bool.and_false])
               clear j3 hee
               refine wp_region_det (S := fun V => Below W2.heap.size W2 V) (by kernel_rfl) (Below.refl W2.heap.size W2).drew ?_
               refine det_take (v := ?_) (i := 0) (fuel := 45) (by simp; rfl) (by kernel_rfl) (by kernel_rfl) (by kernel_rfl) (Or.inl ⟨by rfl, fun w' hS => Or.inl ⟨w', ?_, hS⟩⟩) ?_
               rotate_left
               ·have zl := (HLB.out.below hS HLB.out.lt).lt
                go_simp
                all_goals with_reducible rfl
               simp only [Act.put, List.setIfInBounds_toArray, List.set_cons_zero, List.set_cons_succ]
               refine det_take (v := ?_) (i := 1) (fuel := 44) (by simp; rfl) (by kernel_rfl) (by kernel_rfl) (by kernel_rfl) (Or.inl ⟨by rfl, fun w' hS => Or.inl ⟨w', ?_, hS⟩⟩) ?_
               rotate_left
               ·have zl := (HLB.out.below hS HLB.out.lt).lt
                have z0 : w'.cell? ⟨gq, 0, none⟩ = some (.int .i64 tag) := ((HLB.out.below hS HLB.out.lt).cell 0).trans rfl
                go_simp
                all_goals with_reducible rfl
               simp only [Act.put, List.setIfInBounds_toArray, List.set_cons_zero, List.set_cons_succ]
               refine det_take (v := ?_) (i := 2) (fuel := 43) (by simp; rfl) (by kernel_rfl) (by kernel_rfl) (by kernel_rfl) (Or.inl ⟨by rfl, fun w' hS => Or.inl ⟨w', ?_, hS⟩⟩) ?_
               rotate_left
               ·go_simp
                all_goals with_reducible rfl
               simp only [Act.put, List.setIfInBounds_toArray, List.set_cons_zero, List.set_cons_succ]
               refine det_take (v := ?_) (i := 3) (fuel := 42) (by simp; rfl) (by kernel_rfl) (by kernel_rfl) (by kernel_rfl) (Or.inl ⟨by rfl, fun w' hS => Or.inl ⟨w', ?_, hS⟩⟩) ?_
               rotate_left
               ·go_simp
                all_goals with_reducible rfl
               simp only [Act.put, List.setIfInBounds_toArray, List.set_cons_zero, List.set_cons_succ]
               refine det_take (v := undef) (i := 4) (fuel := 41) (by simp; rfl) (by kernel_rfl) (by kernel_rfl) (by kernel_rfl) (Or.inr ⟨by rfl, by rfl⟩) ?_
               simp only [Act.put, List.setIfInBounds_toArray, List.set_cons_zero, List.set_cons_succ]
               refine det_take (v := undef) (i := 5) (fuel := 40) (by simp; rfl) (by kernel_rfl) (by kernel_rfl) (by kernel_rfl) (Or.inr ⟨by rfl, by rfl⟩) ?_
               simp only [Act.put, List.setIfInBounds_toArray, List.set_cons_zero, List.set_cons_succ]
               refine det_take (v := undef) (i := 6) (fuel := 39) (by simp; rfl) (by kernel_rfl) (by kernel_rfl) (by kernel_rfl) (Or.inr ⟨by rfl, by rfl⟩) ?_
               simp only [Act.put, List.setIfInBounds_toArray, List.set_cons_zero, List.set_cons_succ]
               refine det_take (v := ?_) (i := 7) (fuel := 38) (by simp; rfl) (by kernel_rfl) (by kernel_rfl) (by kernel_rfl) (Or.inl ⟨by rfl, fun w' hS => Or.inl ⟨w', ?_, hS⟩⟩) ?_
               rotate_left
               ·go_simp
                all_goals with_reducible rfl
               simp only [Act.put, List.setIfInBounds_toArray, List.set_cons_zero, List.set_cons_succ]
               refine det_take (v := ?_) (i := 8) (fuel := 37) (by simp; rfl) (by kernel_rfl) (by kernel_rfl) (by kernel_rfl) (Or.inl ⟨by rfl, fun w' hS => Or.inl ⟨w', ?_, hS⟩⟩) ?_
               rotate_left
               ·go_simp
                all_goals with_reducible rfl
               simp only [Act.put, List.setIfInBounds_toArray, List.set_cons_zero, List.set_cons_succ]
               refine det_take (v := ?_) (i := 9) (fuel := 36) (by simp; rfl) (by kernel_rfl) (by kernel_rfl) (by kernel_rfl) (Or.inl ⟨by rfl, fun w' hS => Or.inl ⟨w', ?_, hS⟩⟩) ?_
               rotate_left
               ·have zl := (HLB.out.below hS HLB.out.lt).lt
                go_simp
                all_goals with_reducible rfl
               simp only [Act.put, List.setIfInBounds_toArray, List.set_cons_zero, List.set_cons_succ]
               refine det_take (v := ?_) (i := 10) (fuel := 35) (by simp; rfl) (by kernel_rfl) (by kernel_rfl) (by kernel_rfl) (Or.inl ⟨by rfl, fun w' hS => Or.inl ⟨w', ?_, hS⟩⟩) ?_
               rotate_left
               ·have zl := (HLB.out.below hS HLB.out.lt).lt
                have z2 : w'.cell? ⟨gq, 2, none⟩ = some (.int .i64 verb) := ((HLB.out.below hS HLB.out.lt).cell 2).trans rfl
                go_simp
                all_goals with_reducible rfl
               simp only [Act.put, List.setIfInBounds_toArray, List.set_cons_zero, List.set_cons_succ]
               refine det_take (v := ?_) (i := 11) (fuel := 34) (by simp; rfl) (by kernel_rfl) (by kernel_rfl) (by kernel_rfl) (Or.inl ⟨by rfl, fun w' hS => Or.inl ⟨w', ?_, hS⟩⟩) ?_
               rotate_left
               ·go_simp
                all_goals with_reducible rfl
               simp only [Act.put, List.setIfInBounds_toArray, List.set_cons_zero, List.set_cons_succ]
               refine det_take (v := ?_) (i := 12) (fuel := 33) (by simp; rfl) (by kernel_rfl) (by kernel_rfl) (by kernel_rfl) (Or.inl ⟨by rfl, fun w' hS => Or.inl ⟨w', ?_, hS⟩⟩) ?_
               rotate_left
               ·go_simp
                all_goals with_reducible rfl
               simp only [Act.put, List.setIfInBounds_toArray, List.set_cons_zero, List.set_cons_succ]
               refine det_take (v := ?_) (i := 13) (fuel := 32) (by simp; rfl) (by kernel_rfl) (by kernel_rfl) (by kernel_rfl) (Or.inl ⟨by rfl, fun w' hS => Or.inl ⟨w', ?_, hS⟩⟩) ?_
               rotate_left
               ·go_simp
                all_goals with_reducible rfl
               simp only [Act.put, List.setIfInBounds_toArray, List.set_cons_zero, List.set_cons_succ]
               refine det_take (v := ?_) (i := 14) (fuel := 31) (by simp; rfl) (by kernel_rfl) (by kernel_rfl) (by kernel_rfl) (Or.inl ⟨by rfl, fun w' hS => Or.inl ⟨w', ?_, hS⟩⟩) ?_
               rotate_left
               ·go_simp
                all_goals with_reducible rfl
               simp only [Act.put, List.setIfInBounds_toArray, List.set_cons_zero, List.set_cons_succ]
               refine det_take (v := ?_) (i := 15) (fuel := 30) (by simp; rfl) (by kernel_rfl) (by kernel_rfl) (by kernel_rfl) (Or.inl ⟨by rfl, fun w' hS => Or.inl ⟨w', ?_, hS⟩⟩) ?_
               rotate_left
               ·obtain ⟨lp, x0, x1, x2, x3, x4⟩ := PolBl.cells (Blk.below HPw.out hS (Blk.lt HPw.out))
                go_simp
                all_goals with_reducible rfl
               simp only [Act.put, List.setIfInBounds_toArray, List.set_cons_zero, List.set_cons_succ]
               refine det_take (v := ?_) (i := 16) (fuel := 29) (by simp; rfl) (by kernel_rfl) (by kernel_rfl) (by kernel_rfl) (Or.inl ⟨by rfl, fun w' hS => Or.inl ⟨w', ?_, hS⟩⟩) ?_
               rotate_left
               ·obtain ⟨lp, x0, x1, x2, x3, x4⟩ := PolBl.cells (Blk.below HPw.out hS (Blk.lt HPw.out))
                go_simp
                all_goals with_reducible rfl
               simp only [Act.put, List.setIfInBounds_toArray, List.set_cons_zero, List.set_cons_succ]
               refine det_take (v := ?_) (i := 17) (fuel := 28) (by simp; rfl) (by kernel_rfl) (by kernel_rfl) (by kernel_rfl) (Or.inl ⟨by rfl, fun w' hS => Or.inl ⟨w', ?_, hS⟩⟩) ?_
               rotate_left
               ·obtain ⟨lp, x0, x1, x2, x3, x4⟩ := PolBl.cells (Blk.below HPw.out hS (Blk.lt HPw.out))
                go_simp
                all_goals with_reducible rfl
               simp only [Act.put, List.setIfInBounds_toArray, List.set_cons_zero, List.set_cons_succ]
               refine det_take (v := ?_) (i := 18) (fuel := 27) (by simp; rfl) (by kernel_rfl) (by kernel_rfl) (by kernel_rfl) (Or.inl ⟨by rfl, fun w' hS => Or.inl ⟨w', ?_, hS⟩⟩) ?_
               rotate_left
               ·obtain ⟨lp, x0, x1, x2, x3, x4⟩ := PolBl.cells (Blk.below HPw.out hS (Blk.lt HPw.out))
                rw [HA2.out] at x2
                go_simp
                all_goals with_reducible rfl
               simp only [Act.put, List.setIfInBounds_toArray, List.set_cons_zero, List.set_cons_succ]
               refine det_take (v := ?_) (i := 19) (fuel := 26) (by simp; rfl) (by kernel_rfl) (by kernel_rfl) (by kernel_rfl) (Or.inl ⟨by rfl, fun w' hS => Or.inl ⟨w', ?_, hS⟩⟩) ?_
               rotate_left
               ·go_simp
                all_goals with_reducible rfl
               simp only [Act.put, List.setIfInBounds_toArray, List.set_cons_zero, List.set_cons_succ]
               refine det_take (v := ?_) (i := 20) (fuel := 25) (by simp; rfl) (by kernel_rfl) (by kernel_rfl) (by kernel_rfl) (Or.inl ⟨by rfl, fun w' hS => Or.inl ⟨w', ?_, hS⟩⟩) ?_
               rotate_left
               ·go_simp
                all_goals with_reducible rfl
               simp only [Act.put, List.setIfInBounds_toArray, List.set_cons_zero, List.set_cons_succ]
               refine det_take (v := ?_) (i := 21) (fuel := 24) (by simp; rfl) (by kernel_rfl) (by kernel_rfl) (by kernel_rfl) (Or.inl ⟨by rfl, fun w' hS => Or.inl ⟨w', ?_, hS⟩⟩) ?_
               rotate_left
               ·go_simp
                all_goals with_reducible rfl
               simp only [Act.put, List.setIfInBounds_toArray, List.set_cons_zero, List.set_cons_succ]
               refine det_take (v := ?_) (i := 22) (fuel := 23) (by simp; rfl) (by kernel_rfl) (by kernel_rfl) (by kernel_rfl) (Or.inl ⟨by rfl, fun w' hS => Or.inl ⟨w', ?_, hS⟩⟩) ?_
               rotate_left
               ·have y1 : w'.cell? ⟨g2, o2 + i * 3 + 2, none⟩ = some (.int .u64 (ro : Int)) := (hS.cell (p := ⟨g2, o2 + i * 3 + 2, none⟩) hgW).trans HD.out
                go_simp
                all_goals with_reducible rfl
               simp only [Act.put, List.setIfInBounds_toArray, List.set_cons_zero, List.set_cons_succ]
               refine det_take (v := ?_) (i := 23) (fuel := 22) (by simp; rfl) (by kernel_rfl) (by kernel_rfl) (by kernel_rfl) (Or.inl ⟨by rfl, fun w' hS => Or.inl ⟨w', ?_, hS⟩⟩) ?_
               rotate_left
               ·have zl := (HLB.out.below hS HLB.out.lt).lt
                go_simp
                all_goals with_reducible rfl
               simp only [Act.put, List.setIfInBounds_toArray, List.set_cons_zero, List.set_cons_succ]
               refine det_take (v := ?_) (i := 24) (fuel := 21) (by simp; rfl) (by kernel_rfl) (by kernel_rfl) (by kernel_rfl) (Or.inl ⟨by rfl, fun w' hS => Or.inl ⟨w', ?_, hS⟩⟩) ?_
               rotate_left
               ·have zl := (HLB.out.below hS HLB.out.lt).lt
                have z1 : w'.cell? ⟨gq, 1, none⟩ = some (.int .i64 role) := ((HLB.out.below hS HLB.out.lt).cell 1).trans rfl
                go_simp
                all_goals with_reducible rfl
               simp only [Act.put, List.setIfInBounds_toArray, List.set_cons_zero, List.set_cons_succ]
               refine det_take (v := ?_) (i := 25) (fuel := 20) (by simp; rfl) (by kernel_rfl) (by kernel_rfl) (by kernel_rfl) (Or.inl ⟨by rfl, fun w' hS => Or.inr ⟨33, #[.slice s.Au nu s.cu, .int .u64 (ro : Int), .int .i64 role], w', ?_, ?_⟩⟩) ?_
               rotate_left
               ·go_simp
                all_goals with_reducible rfl
               ·exact (HHX.out w' hS).mono fun e w2 h => ⟨by rw [h.1], h.2 ▸ hS⟩
               simp only [Act.put, List.setIfInBounds_toArray, List.set_cons_zero, List.set_cons_succ]
               refine det_take (v := ?_) (i := 26) (fuel := 19) (by simp; rfl) (by kernel_rfl) (by kernel_rfl) (by kernel_rfl) (Or.inl ⟨by rfl, fun w' hS => Or.inl ⟨w', ?_, hS⟩⟩) ?_
               rotate_left
               ·go_simp
                all_goals with_reducible rfl
               simp only [Act.put, List.setIfInBounds_toArray, List.set_cons_zero, List.set_cons_succ]
               refine det_take (v := ?_) (i := 27) (fuel := 18) (by simp; rfl) (by kernel_rfl) (by kernel_rfl) (by kernel_rfl) (Or.inl ⟨by rfl, fun w' hS => Or.inl ⟨w', ?_, hS⟩⟩) ?_
               rotate_left
               ·go_simp
                all_goals with_reducible rfl
               simp only [Act.put, List.setIfInBounds_toArray, List.set_cons_zero, List.set_cons_succ]
               refine det_take (v := ?_) (i := 28) (fuel := 17) (by simp; rfl) (by kernel_rfl) (by kernel_rfl) (by kernel_rfl) (Or.inl ⟨by rfl, fun w' hS => Or.inl ⟨w', ?_, hS⟩⟩) ?_
               rotate_left
               ·go_simp
                all_goals with_reducible rfl
               simp only [Act.put, List.setIfInBounds_toArray, List.set_cons_zero, List.set_cons_succ]
               refine det_take (v := ?_) (i := 29) (fuel := 16) (by simp; rfl) (by kernel_rfl) (by kernel_rfl) (by kernel_rfl) (Or.inl ⟨by rfl, fun w' hS => Or.inl ⟨w', ?_, hS⟩⟩) ?_
               rotate_left
               ·go_simp
                all_goals with_reducible rfl
               simp only [Act.put, List.setIfInBounds_toArray, List.set_cons_zero, List.set_cons_succ]
               refine det_take (v := ?_) (i := 30) (fuel := 15) (by simp; rfl) (by kernel_rfl) (by kernel_rfl) (by kernel_rfl) (Or.inl ⟨by rfl, fun w' hS => Or.inl ⟨w', ?_, hS⟩⟩) ?_
               rotate_left
               ·go_simp
                all_goals with_reducible rfl
               simp only [Act.put, List.setIfInBounds_toArray, List.set_cons_zero, List.set_cons_succ]
               refine det_take (v := undef) (i := 31) (fuel := 14) (by simp; rfl) (by kernel_rfl) (by kernel_rfl) (by kernel_rfl) (Or.inr ⟨by rfl, by rfl⟩) ?_
               simp only [Act.put, List.setIfInBounds_toArray, List.set_cons_zero, List.set_cons_succ]
               refine det_take (v := undef) (i := 32) (fuel := 13) (by simp; rfl) (by kernel_rfl) (by kernel_rfl) (by kernel_rfl) (Or.inr ⟨by rfl, by rfl⟩) ?_
               simp only [Act.put, List.setIfInBounds_toArray, List.set_cons_zero, List.set_cons_succ]
               refine det_take (v := undef) (i := 33) (fuel := 12) (by simp; rfl) (by kernel_rfl) (by kernel_rfl) (by kernel_rfl) (Or.inr ⟨by rfl, by rfl⟩) ?_
               simp only [Act.put, List.setIfInBounds_toArray, List.set_cons_zero, List.set_cons_succ]
               refine det_take (v := undef) (i := 34) (fuel := 11) (by simp; rfl) (by kernel_rfl) (by kernel_rfl) (by kernel_rfl) (Or.inr ⟨by rfl, by rfl⟩) ?_
               simp only [Act.put, List.setIfInBounds_toArray, List.set_cons_zero, List.set_cons_succ]
               refine det_take (v := ?_) (i := 35) (fuel := 10) (by simp; rfl) (by kernel_rfl) (by kernel_rfl) (by kernel_rfl) (Or.inl ⟨by rfl, fun w' hS => Or.inl ⟨w', ?_, hS⟩⟩) ?_
               rotate_left
               ·go_simp
                all_goals with_reducible rfl
               simp only [Act.put, List.setIfInBounds_toArray, List.set_cons_zero, List.set_cons_succ]
               refine det_take (v := ?_) (i := 36) (fuel := 9) (by simp; rfl) (by kernel_rfl) (by kernel_rfl) (by kernel_rfl) (Or.inl ⟨by rfl, fun w' hS => Or.inl ⟨w', ?_, hS⟩⟩) ?_
               rotate_left
               ·go_simp
                all_goals with_reducible rfl
               simp only [Act.put, List.setIfInBounds_toArray, List.set_cons_zero, List.set_cons_succ]
               refine det_take (v := ?_) (i := 37) (fuel := 8) (by simp; rfl) (by kernel_rfl) (by kernel_rfl) (by kernel_rfl) (Or.inl ⟨by rfl, fun w' hS => Or.inl ⟨w', ?_, hS⟩⟩) ?_
               rotate_left
               ·go_simp
                all_goals with_reducible rfl
               simp only [Act.put, List.setIfInBounds_toArray, List.set_cons_zero, List.set_cons_succ]
               refine det_take (v := ?_) (i := 38) (fuel := 7) (by simp; rfl) (by kernel_rfl) (by kernel_rfl) (by kernel_rfl) (Or.inl ⟨by rfl, fun w' hS => Or.inl ⟨w', ?_, hS⟩⟩) ?_
               rotate_left
               ·go_simp
                all_goals with_reducible rfl
               simp only [Act.put, List.setIfInBounds_toArray, List.set_cons_zero, List.set_cons_succ]
               refine det_take (v := ?_) (i := 39) (fuel := 6) (by simp; rfl) (by kernel_rfl) (by kernel_rfl) (by kernel_rfl) (Or.inl ⟨by rfl, fun w' hS => Or.inl ⟨w', ?_, hS⟩⟩) ?_
               rotate_left
               ·go_simp
                all_goals with_reducible rfl
               simp only [Act.put, List.setIfInBounds_toArray, List.set_cons_zero, List.set_cons_succ]
               refine det_take (v := ?_) (i := 40) (fuel := 5) (by simp; rfl) (by kernel_rfl) (by kernel_rfl) (by kernel_rfl) (Or.inl ⟨by rfl, fun w' hS => Or.inl ⟨w', ?_, hS⟩⟩) ?_
               rotate_left
               ·have zl := (HLB.out.below hS HLB.out.lt).lt
                go_simp
                all_goals with_reducible rfl
               simp only [Act.put, List.setIfInBounds_toArray, List.set_cons_zero, List.set_cons_succ]
               refine det_take (v := ?_) (i := 41) (fuel := 4) (by simp; rfl) (by kernel_rfl) (by kernel_rfl) (by kernel_rfl) (Or.inl ⟨by rfl, fun w' hS => Or.inl ⟨w', ?_, hS⟩⟩) ?_
               rotate_left
               ·have zl := (HLB.out.below hS HLB.out.lt).lt
                have z3 : w'.cell? ⟨gq, 3, none⟩ = some (.int .i64 ent) := ((HLB.out.below hS HLB.out.lt).cell 3).trans rfl
                go_simp
                all_goals with_reducible rfl
               simp only [Act.put, List.setIfInBounds_toArray, List.set_cons_zero, List.set_cons_succ]
               refine det_take (v := ?_) (i := 42) (fuel := 3) (by simp; rfl) (by kernel_rfl) (by kernel_rfl) (by kernel_rfl) (Or.inl ⟨by rfl, fun w' hS => Or.inl ⟨w', ?_, hS⟩⟩) ?_
               rotate_left
               ·go_simp
                all_goals with_reducible rfl
               simp only [Act.put, List.setIfInBounds_toArray, List.set_cons_zero, List.set_cons_succ]
               refine det_take (v := ?_) (i := 43) (fuel := 2) (by simp; rfl) (by kernel_rfl) (by kernel_rfl) (by kernel_rfl) (Or.inl ⟨by rfl, fun w' hS => Or.inl ⟨w', ?_, hS⟩⟩) ?_
               rotate_left
               ·go_simp
                all_goals with_reducible rfl
               simp only [Act.put, List.setIfInBounds_toArray, List.set_cons_zero, List.set_cons_succ]
               refine det_take (v := ?_) (i := 44) (fuel := 1) (by simp; rfl) (by kernel_rfl) (by kernel_rfl) (by kernel_rfl) (Or.inl ⟨by rfl, fun w' hS => Or.inl ⟨w', ?_, hS⟩⟩) ?_
               rotate_left
               ·go_simp
                all_goals with_reducible rfl
               simp only [Act.put, List.setIfInBounds_toArray, List.set_cons_zero, List.set_cons_succ]
               refine det_take (v := ?_) (i := 45) (fuel := 0) (by simp; rfl) (by kernel_rfl) (by kernel_rfl) (by kernel_rfl) (Or.inl ⟨by rfl, fun w' hS => Or.inl ⟨w', ?_, hS⟩⟩) ?_
               rotate_left
               ·go_simp
                all_goals with_reducible rfl
               simp only [Act.put, List.setIfInBounds_toArray, List.set_cons_zero, List.set_cons_succ]
               refine det_done (by kernel_rfl) (fun V hV => ?_) _
               have HV9 := Lib.hid (HSw.out.trans (hV.mono HSw.out.size))
               have hN : tagM (spk P ro vb e) (P.rules.take (j + 1)) = t1 := by rw [tagM_no HGR.out HSZ.out, HT1.out]
               have HR9 := Lib.hid (And.intro (show decide (tagM (spk P ro vb e) (P.rules.take (j + 1)) ≠ 0) = b1 by rw [hN]; exact HD1.out) (show decide (tagM (spk P ro vb e) (P.rules.take (j + 1)) = 2) = b2 by rw [hN]; exact HD2.out))
               clear hN
               go_wp2
               go_roundw
               case rel => exact ⟨j + 1, HJ.out, by go_num, by rw [HR9.out.1], by rw [HR9.out.2], HV9.out⟩
               case measure => simp [intOf]; omega
           ·have hb5 : (verb == vb) = false := by simp; omega
            have HSZ := Lib.hid (show spk P ro vb e ⟨tag, role, verb, ent, grp, line, neg, c0, c1, sc, toS, toL⟩ = false by rw [HSY.out]; rw [decide_eq_false j1, Bool.false_and, Bool.and_false])
            clear j1
            refine wp_region_det (S := fun V => Below W2.heap.size W2 V) (by kernel_rfl) (Below.refl W2.heap.size W2).drew ?_
            refine det_take (v := ?_) (i := 0) (fuel := 45) (by simp; rfl) (by kernel_rfl) (by kernel_rfl) (by kernel_rfl) (Or.inl ⟨by rfl, fun w' hS => Or.inl ⟨w', ?_, hS⟩⟩) ?_
            rotate_left
            ·have zl := (HLB.out.below hS HLB.out.lt).lt
             go_simp
             all_goals with_reducible rfl
            simp only [Act.put, List.setIfInBounds_toArray, List.set_cons_zero, List.set_cons_succ]
            refine det_take (v := ?_) (i := 1) (fuel := 44) (by simp; rfl) (by kernel_rfl) (by kernel_rfl) (by kernel_rfl) (Or.inl ⟨by rfl, fun w' hS => Or.inl ⟨w', ?_, hS⟩⟩) ?_
            rotate_left
            ·have zl := (HLB.out.below hS HLB.out.lt).lt
             have z0 : w'.cell? ⟨gq, 0, none⟩ = some (.int .i64 tag) := ((HLB.out.below hS HLB.out.lt).cell 0).trans rfl
             go_simp
             all_goals with_reducible rfl
            simp only [Act.put, List.setIfInBounds_toArray, List.set_cons_zero, List.set_cons_succ]
            refine det_take (v := ?_) (i := 2) (fuel := 43) (by simp; rfl) (by kernel_rfl) (by kernel_rfl) (by kernel_rfl) (Or.inl ⟨by rfl, fun w' hS => Or.inl ⟨w', ?_, hS⟩⟩) ?_
            rotate_left
            ·go_simp
             all_goals with_reducible rfl
            simp only [Act.put, List.setIfInBounds_toArray, List.set_cons_zero, List.set_cons_succ]
            refine det_take (v := ?_) (i := 3) (fuel := 42) (by simp; rfl) (by kernel_rfl) (by kernel_rfl) (by kernel_rfl) (Or.inl ⟨by rfl, fun w' hS => Or.inl ⟨w', ?_, hS⟩⟩) ?_
            rotate_left
            ·go_simp
             all_goals with_reducible rfl
            simp only [Act.put, List.setIfInBounds_toArray, List.set_cons_zero, List.set_cons_succ]
            refine det_take (v := undef) (i := 4) (fuel := 41) (by simp; rfl) (by kernel_rfl) (by kernel_rfl) (by kernel_rfl) (Or.inr ⟨by rfl, by rfl⟩) ?_
            simp only [Act.put, List.setIfInBounds_toArray, List.set_cons_zero, List.set_cons_succ]
            refine det_take (v := undef) (i := 5) (fuel := 40) (by simp; rfl) (by kernel_rfl) (by kernel_rfl) (by kernel_rfl) (Or.inr ⟨by rfl, by rfl⟩) ?_
            simp only [Act.put, List.setIfInBounds_toArray, List.set_cons_zero, List.set_cons_succ]
            refine det_take (v := undef) (i := 6) (fuel := 39) (by simp; rfl) (by kernel_rfl) (by kernel_rfl) (by kernel_rfl) (Or.inr ⟨by rfl, by rfl⟩) ?_
            simp only [Act.put, List.setIfInBounds_toArray, List.set_cons_zero, List.set_cons_succ]
            refine det_take (v := ?_) (i := 7) (fuel := 38) (by simp; rfl) (by kernel_rfl) (by kernel_rfl) (by kernel_rfl) (Or.inl ⟨by rfl, fun w' hS => Or.inl ⟨w', ?_, hS⟩⟩) ?_
            rotate_left
            ·go_simp
             all_goals with_reducible rfl
            simp only [Act.put, List.setIfInBounds_toArray, List.set_cons_zero, List.set_cons_succ]
            refine det_take (v := ?_) (i := 8) (fuel := 37) (by simp; rfl) (by kernel_rfl) (by kernel_rfl) (by kernel_rfl) (Or.inl ⟨by rfl, fun w' hS => Or.inl ⟨w', ?_, hS⟩⟩) ?_
            rotate_left
            ·go_simp
             all_goals with_reducible rfl
            simp only [Act.put, List.setIfInBounds_toArray, List.set_cons_zero, List.set_cons_succ]
            refine det_take (v := ?_) (i := 9) (fuel := 36) (by simp; rfl) (by kernel_rfl) (by kernel_rfl) (by kernel_rfl) (Or.inl ⟨by rfl, fun w' hS => Or.inl ⟨w', ?_, hS⟩⟩) ?_
            rotate_left
            ·have zl := (HLB.out.below hS HLB.out.lt).lt
             go_simp
             all_goals with_reducible rfl
            simp only [Act.put, List.setIfInBounds_toArray, List.set_cons_zero, List.set_cons_succ]
            refine det_take (v := ?_) (i := 10) (fuel := 35) (by simp; rfl) (by kernel_rfl) (by kernel_rfl) (by kernel_rfl) (Or.inl ⟨by rfl, fun w' hS => Or.inl ⟨w', ?_, hS⟩⟩) ?_
            rotate_left
            ·have zl := (HLB.out.below hS HLB.out.lt).lt
             have z2 : w'.cell? ⟨gq, 2, none⟩ = some (.int .i64 verb) := ((HLB.out.below hS HLB.out.lt).cell 2).trans rfl
             go_simp
             all_goals with_reducible rfl
            simp only [Act.put, List.setIfInBounds_toArray, List.set_cons_zero, List.set_cons_succ]
            refine det_take (v := ?_) (i := 11) (fuel := 34) (by simp; rfl) (by kernel_rfl) (by kernel_rfl) (by kernel_rfl) (Or.inl ⟨by rfl, fun w' hS => Or.inl ⟨w', ?_, hS⟩⟩) ?_
            rotate_left
            ·go_simp
             all_goals with_reducible rfl
            simp only [Act.put, List.setIfInBounds_toArray, List.set_cons_zero, List.set_cons_succ]
            refine det_take (v := ?_) (i := 12) (fuel := 33) (by simp; rfl) (by kernel_rfl) (by kernel_rfl) (by kernel_rfl) (Or.inl ⟨by rfl, fun w' hS => Or.inl ⟨w', ?_, hS⟩⟩) ?_
            rotate_left
            ·go_simp
             all_goals with_reducible rfl
            simp only [Act.put, List.setIfInBounds_toArray, List.set_cons_zero, List.set_cons_succ]
            refine det_take (v := ?_) (i := 13) (fuel := 32) (by simp; rfl) (by kernel_rfl) (by kernel_rfl) (by kernel_rfl) (Or.inl ⟨by rfl, fun w' hS => Or.inl ⟨w', ?_, hS⟩⟩) ?_
            rotate_left
            ·go_simp
             all_goals with_reducible rfl
            simp only [Act.put, List.setIfInBounds_toArray, List.set_cons_zero, List.set_cons_succ]
            refine det_take (v := ?_) (i := 14) (fuel := 31) (by simp; rfl) (by kernel_rfl) (by kernel_rfl) (by kernel_rfl) (Or.inl ⟨by rfl, fun w' hS => Or.inl ⟨w', ?_, hS⟩⟩) ?_
            rotate_left
            ·go_simp
             all_goals with_reducible rfl
            simp only [Act.put, List.setIfInBounds_toArray, List.set_cons_zero, List.set_cons_succ]
            refine det_take (v := undef) (i := 15) (fuel := 30) (by simp; rfl) (by kernel_rfl) (by kernel_rfl) (by kernel_rfl) (Or.inr ⟨by rfl, by rfl⟩) ?_
            simp only [Act.put, List.setIfInBounds_toArray, List.set_cons_zero, List.set_cons_succ]
            refine det_take (v := undef) (i := 16) (fuel := 29) (by simp; rfl) (by kernel_rfl) (by kernel_rfl) (by kernel_rfl) (Or.inr ⟨by rfl, by rfl⟩) ?_
            simp only [Act.put, List.setIfInBounds_toArray, List.set_cons_zero, List.set_cons_succ]
            refine det_take (v := undef) (i := 17) (fuel := 28) (by simp; rfl) (by kernel_rfl) (by kernel_rfl) (by kernel_rfl) (Or.inr ⟨by rfl, by rfl⟩) ?_
            simp only [Act.put, List.setIfInBounds_toArray, List.set_cons_zero, List.set_cons_succ]
            refine det_take (v := undef) (i := 18) (fuel := 27) (by simp; rfl) (by kernel_rfl) (by kernel_rfl) (by kernel_rfl) (Or.inr ⟨by rfl, by rfl⟩) ?_
            simp only [Act.put, List.setIfInBounds_toArray, List.set_cons_zero, List.set_cons_succ]
            refine det_take (v := undef) (i := 19) (fuel := 26) (by simp; rfl) (by kernel_rfl) (by kernel_rfl) (by kernel_rfl) (Or.inr ⟨by rfl, by rfl⟩) ?_
            simp only [Act.put, List.setIfInBounds_toArray, List.set_cons_zero, List.set_cons_succ]
            refine det_take (v := undef) (i := 20) (fuel := 25) (by simp; rfl) (by kernel_rfl) (by kernel_rfl) (by kernel_rfl) (Or.inr ⟨by rfl, by rfl⟩) ?_
            simp only [Act.put, List.setIfInBounds_toArray, List.set_cons_zero, List.set_cons_succ]
            refine det_take (v := undef) (i := 21) (fuel := 24) (by simp; rfl) (by kernel_rfl) (by kernel_rfl) (by kernel_rfl) (Or.inr ⟨by rfl, by rfl⟩) ?_
            simp only [Act.put, List.setIfInBounds_toArray, List.set_cons_zero, List.set_cons_succ]
            refine det_take (v := undef) (i := 22) (fuel := 23) (by simp; rfl) (by kernel_rfl) (by kernel_rfl) (by kernel_rfl) (Or.inr ⟨by rfl, by rfl⟩) ?_
            simp only [Act.put, List.setIfInBounds_toArray, List.set_cons_zero, List.set_cons_succ]
            refine det_take (v := undef) (i := 23) (fuel := 22) (by simp; rfl) (by kernel_rfl) (by kernel_rfl) (by kernel_rfl) (Or.inr ⟨by rfl, by rfl⟩) ?_
            simp only [Act.put, List.setIfInBounds_toArray, List.set_cons_zero, List.set_cons_succ]
            refine det_take (v := undef) (i := 24) (fuel := 21) (by simp; rfl) (by kernel_rfl) (by kernel_rfl) (by kernel_rfl) (Or.inr ⟨by rfl, by rfl⟩) ?_
            simp only [Act.put, List.setIfInBounds_toArray, List.set_cons_zero, List.set_cons_succ]
            refine det_take (v := undef) (i := 25) (fuel := 20) (by simp; rfl) (by kernel_rfl) (by kernel_rfl) (by kernel_rfl) (Or.inr ⟨by rfl, by rfl⟩) ?_
            simp only [Act.put, List.setIfInBounds_toArray, List.set_cons_zero, List.set_cons_succ]
            refine det_take (v := ?_) (i := 26) (fuel := 19) (by simp; rfl) (by kernel_rfl) (by kernel_rfl) (by kernel_rfl) (Or.inl ⟨by rfl, fun w' hS => Or.inl ⟨w', ?_, hS⟩⟩) ?_
            rotate_left
            ·go_simp
             all_goals with_reducible rfl
            simp only [Act.put, List.setIfInBounds_toArray, List.set_cons_zero, List.set_cons_succ]
            refine det_take (v := ?_) (i := 27) (fuel := 18) (by simp; rfl) (by kernel_rfl) (by kernel_rfl) (by kernel_rfl) (Or.inl ⟨by rfl, fun w' hS => Or.inl ⟨w', ?_, hS⟩⟩) ?_
            rotate_left
            ·go_simp
             all_goals with_reducible rfl
            simp only [Act.put, List.setIfInBounds_toArray, List.set_cons_zero, List.set_cons_succ]
            refine det_take (v := undef) (i := 28) (fuel := 17) (by simp; rfl) (by kernel_rfl) (by kernel_rfl) (by kernel_rfl) (Or.inr ⟨by rfl, by rfl⟩) ?_
            simp only [Act.put, List.setIfInBounds_toArray, List.set_cons_zero, List.set_cons_succ]
            refine det_take (v := undef) (i := 29) (fuel := 16) (by simp; rfl) (by kernel_rfl) (by kernel_rfl) (by kernel_rfl) (Or.inr ⟨by rfl, by rfl⟩) ?_
            simp only [Act.put, List.setIfInBounds_toArray, List.set_cons_zero, List.set_cons_succ]
            refine det_take (v := undef) (i := 30) (fuel := 15) (by simp; rfl) (by kernel_rfl) (by kernel_rfl) (by kernel_rfl) (Or.inr ⟨by rfl, by rfl⟩) ?_
            simp only [Act.put, List.setIfInBounds_toArray, List.set_cons_zero, List.set_cons_succ]
            refine det_take (v := undef) (i := 31) (fuel := 14) (by simp; rfl) (by kernel_rfl) (by kernel_rfl) (by kernel_rfl) (Or.inr ⟨by rfl, by rfl⟩) ?_
            simp only [Act.put, List.setIfInBounds_toArray, List.set_cons_zero, List.set_cons_succ]
            refine det_take (v := undef) (i := 32) (fuel := 13) (by simp; rfl) (by kernel_rfl) (by kernel_rfl) (by kernel_rfl) (Or.inr ⟨by rfl, by rfl⟩) ?_
            simp only [Act.put, List.setIfInBounds_toArray, List.set_cons_zero, List.set_cons_succ]
            refine det_take (v := undef) (i := 33) (fuel := 12) (by simp; rfl) (by kernel_rfl) (by kernel_rfl) (by kernel_rfl) (Or.inr ⟨by rfl, by rfl⟩) ?_
            simp only [Act.put, List.setIfInBounds_toArray, List.set_cons_zero, List.set_cons_succ]
            refine det_take (v := undef) (i := 34) (fuel := 11) (by simp; rfl) (by kernel_rfl) (by kernel_rfl) (by kernel_rfl) (Or.inr ⟨by rfl, by rfl⟩) ?_
            simp only [Act.put, List.setIfInBounds_toArray, List.set_cons_zero, List.set_cons_succ]
            refine det_take (v := undef) (i := 35) (fuel := 10) (by simp; rfl) (by kernel_rfl) (by kernel_rfl) (by kernel_rfl) (Or.inr ⟨by rfl, by rfl⟩) ?_
            simp only [Act.put, List.setIfInBounds_toArray, List.set_cons_zero, List.set_cons_succ]
            refine det_take (v := undef) (i := 36) (fuel := 9) (by simp; rfl) (by kernel_rfl) (by kernel_rfl) (by kernel_rfl) (Or.inr ⟨by rfl, by rfl⟩) ?_
            simp only [Act.put, List.setIfInBounds_toArray, List.set_cons_zero, List.set_cons_succ]
            refine det_take (v := undef) (i := 37) (fuel := 8) (by simp; rfl) (by kernel_rfl) (by kernel_rfl) (by kernel_rfl) (Or.inr ⟨by rfl, by rfl⟩) ?_
            simp only [Act.put, List.setIfInBounds_toArray, List.set_cons_zero, List.set_cons_succ]
            refine det_take (v := undef) (i := 38) (fuel := 7) (by simp; rfl) (by kernel_rfl) (by kernel_rfl) (by kernel_rfl) (Or.inr ⟨by rfl, by rfl⟩) ?_
            simp only [Act.put, List.setIfInBounds_toArray, List.set_cons_zero, List.set_cons_succ]
            refine det_take (v := undef) (i := 39) (fuel := 6) (by simp; rfl) (by kernel_rfl) (by kernel_rfl) (by kernel_rfl) (Or.inr ⟨by rfl, by rfl⟩) ?_
            simp only [Act.put, List.setIfInBounds_toArray, List.set_cons_zero, List.set_cons_succ]
            refine det_take (v := undef) (i := 40) (fuel := 5) (by simp; rfl) (by kernel_rfl) (by kernel_rfl) (by kernel_rfl) (Or.inr ⟨by rfl, by rfl⟩) ?_
            simp only [Act.put, List.setIfInBounds_toArray, List.set_cons_zero, List.set_cons_succ]
            refine det_take (v := undef) (i := 41) (fuel := 4) (by simp; rfl) (by kernel_rfl) (by kernel_rfl) (by kernel_rfl) (Or.inr ⟨by rfl, by rfl⟩) ?_
            simp only [Act.put, List.setIfInBounds_toArray, List.set_cons_zero, List.set_cons_succ]
            refine det_take (v := undef) (i := 42) (fuel := 3) (by simp; rfl) (by kernel_rfl) (by kernel_rfl) (by kernel_rfl) (Or.inr ⟨by rfl, by rfl⟩) ?_
            simp only [Act.put, List.setIfInBounds_toArray, List.set_cons_zero, List.set_cons_succ]
            refine det_take (v := undef) (i := 43) (fuel := 2) (by simp; rfl) (by kernel_rfl) (by kernel_rfl) (by kernel_rfl) (Or.inr ⟨by rfl, by rfl⟩) ?_
            simp only [Act.put, List.setIfInBounds_toArray, List.set_cons_zero, List.set_cons_succ]
            refine det_take (v := undef) (i := 44) (fuel := 1) (by simp; rfl) (by kernel_rfl) (by kernel_rfl) (by kernel_rfl) (Or.inr ⟨by rfl, by rfl⟩) ?_
            simp only [Act.put, List.setIfInBounds_toArray, List.set_cons_zero, List.set_cons_succ]
            refine det_take (v := ?_) (i := 45) (fuel := 0) (by simp; rfl) (by kernel_rfl) (by kernel_rfl) (by kernel_rfl) (Or.inl ⟨by rfl, fun w' hS => Or.inl ⟨w', ?_, hS⟩⟩) ?_
            rotate_left
            ·go_simp
             all_goals with_reducible rfl
            simp only [Act.put, List.setIfInBounds_toArray, List.set_cons_zero, List.set_cons_succ]
            refine det_done (by kernel_rfl) (fun V hV => ?_) _
            have HV9 := Lib.hid (HSw.out.trans (hV.mono HSw.out.size))
            have hN : tagM (spk P ro vb e) (P.rules.take (j + 1)) = t1 := by rw [tagM_no HGR.out HSZ.out, HT1.out]
            have HR9 := Lib.hid (And.intro (show decide (tagM (spk P ro vb e) (P.rules.take (j + 1)) ≠ 0) = b1 by rw [hN]; exact HD1.out) (show decide (tagM (spk P ro vb e) (P.rules.take (j + 1)) = 2) = b2 by rw [hN]; exact HD2.out))
            clear hN
            go_wp2
            go_roundw
            case rel => exact ⟨j + 1, HJ.out, by go_num, by rw [HR9.out.1], by rw [HR9.out.2], HV9.out⟩
            case measure => simp [intOf]; omega
          ·have hq1 : (tag == 1) = false := by simp; omega
           by_cases g2 : tag = 2
           ·have hq2 : (tag == 2) = true := by simp; omega
            have HTG := Lib.hid (show tag = 1 ∨ tag = 2 from .inr g2)
            have HQT := Lib.hid hq2
            clear g1 g2 htg
            by_cases j1 : verb = vb
            ·have hb5 : (verb == vb) = true := by simp; omega
             have J1 := Lib.hid j1
             clear j1
             cases η
             ·skip
              have HSZ := Lib.hid (show spk P ro vb e ⟨tag, role, verb, ent, grp, line, neg, c0, c1, sc, toS, toL⟩ = false by rw [HSY.out]; simp)
              refine wp_region_det (S := fun V => Below W2.heap.size W2 V) (by kernel_rfl) (Below.refl W2.heap.size W2).drew ?_
              refine det_take (v := ?_) (i := 0) (fuel := 45) (by simp; rfl) (by kernel_rfl) (by kernel_rfl) (by kernel_rfl) (Or.inl ⟨by rfl, fun w' hS => Or.inl ⟨w', ?_, hS⟩⟩) ?_
              rotate_left
              ·have zl := (HLB.out.below hS HLB.out.lt).lt
               go_simp
               all_goals with_reducible rfl
              simp only [Act.put, List.setIfInBounds_toArray, List.set_cons_zero, List.set_cons_succ]
              refine det_take (v := ?_) (i := 1) (fuel := 44) (by simp; rfl) (by kernel_rfl) (by kernel_rfl) (by kernel_rfl) (Or.inl ⟨by rfl, fun w' hS => Or.inl ⟨w', ?_, hS⟩⟩) ?_
              rotate_left
              ·have zl := (HLB.out.below hS HLB.out.lt).lt
               have z0 : w'.cell? ⟨gq, 0, none⟩ = some (.int .i64 tag) := ((HLB.out.below hS HLB.out.lt).cell 0).trans rfl
               go_simp
               all_goals with_reducible rfl
              simp only [Act.put, List.setIfInBounds_toArray, List.set_cons_zero, List.set_cons_succ]
              refine det_take (v := ?_) (i := 2) (fuel := 43) (by simp; rfl) (by kernel_rfl) (by kernel_rfl) (by kernel_rfl) (Or.inl ⟨by rfl, fun w' hS => Or.inl ⟨w', ?_, hS⟩⟩) ?_
              rotate_left
              ·go_simp
               all_goals with_reducible rfl
              simp only [Act.put, List.setIfInBounds_toArray, List.set_cons_zero, List.set_cons_succ]
              refine det_take (v := ?_) (i := 3) (fuel := 42) (by simp; rfl) (by kernel_rfl) (by kernel_rfl) (by kernel_rfl) (Or.inl ⟨by rfl, fun w' hS => Or.inl ⟨w', ?_, hS⟩⟩) ?_
              rotate_left
              ·go_simp
               all_goals with_reducible rfl
              simp only [Act.put, List.setIfInBounds_toArray, List.set_cons_zero, List.set_cons_succ]
              refine det_take (v := ?_) (i := 4) (fuel := 41) (by simp; rfl) (by kernel_rfl) (by kernel_rfl) (by kernel_rfl) (Or.inl ⟨by rfl, fun w' hS => Or.inl ⟨w', ?_, hS⟩⟩) ?_
              rotate_left
              ·have zl := (HLB.out.below hS HLB.out.lt).lt
               go_simp
               all_goals with_reducible rfl
              simp only [Act.put, List.setIfInBounds_toArray, List.set_cons_zero, List.set_cons_succ]
              refine det_take (v := ?_) (i := 5) (fuel := 40) (by simp; rfl) (by kernel_rfl) (by kernel_rfl) (by kernel_rfl) (Or.inl ⟨by rfl, fun w' hS => Or.inl ⟨w', ?_, hS⟩⟩) ?_
              rotate_left
              ·have zl := (HLB.out.below hS HLB.out.lt).lt
               have z0 : w'.cell? ⟨gq, 0, none⟩ = some (.int .i64 tag) := ((HLB.out.below hS HLB.out.lt).cell 0).trans rfl
               go_simp
               all_goals with_reducible rfl
              simp only [Act.put, List.setIfInBounds_toArray, List.set_cons_zero, List.set_cons_succ]
              refine det_take (v := ?_) (i := 6) (fuel := 39) (by simp; rfl) (by kernel_rfl) (by kernel_rfl) (by kernel_rfl) (Or.inl ⟨by rfl, fun w' hS => Or.inl ⟨w', ?_, hS⟩⟩) ?_
              rotate_left
              ·go_simp
               all_goals with_reducible rfl
              simp only [Act.put, List.setIfInBounds_toArray, List.set_cons_zero, List.set_cons_succ]
              refine det_take (v := ?_) (i := 7) (fuel := 38) (by simp; rfl) (by kernel_rfl) (by kernel_rfl) (by kernel_rfl) (Or.inl ⟨by rfl, fun w' hS => Or.inl ⟨w', ?_, hS⟩⟩) ?_
              rotate_left
              ·go_simp
               all_goals with_reducible rfl
              simp only [Act.put, List.setIfInBounds_toArray, List.set_cons_zero, List.set_cons_succ]
              refine det_take (v := ?_) (i := 8) (fuel := 37) (by simp; rfl) (by kernel_rfl) (by kernel_rfl) (by kernel_rfl) (Or.inl ⟨by rfl, fun w' hS => Or.inl ⟨w', ?_, hS⟩⟩) ?_
              rotate_left
              ·go_simp
               all_goals with_reducible rfl
              simp only [Act.put, List.setIfInBounds_toArray, List.set_cons_zero, List.set_cons_succ]
              refine det_take (v := ?_) (i := 9) (fuel := 36) (by simp; rfl) (by kernel_rfl) (by kernel_rfl) (by kernel_rfl) (Or.inl ⟨by rfl, fun w' hS => Or.inl ⟨w', ?_, hS⟩⟩) ?_
              rotate_left
              ·have zl := (HLB.out.below hS HLB.out.lt).lt
               go_simp
               all_goals with_reducible rfl
              simp only [Act.put, List.setIfInBounds_toArray, List.set_cons_zero, List.set_cons_succ]
              refine det_take (v := ?_) (i := 10) (fuel := 35) (by simp; rfl) (by kernel_rfl) (by kernel_rfl) (by kernel_rfl) (Or.inl ⟨by rfl, fun w' hS => Or.inl ⟨w', ?_, hS⟩⟩) ?_
              rotate_left
              ·have zl := (HLB.out.below hS HLB.out.lt).lt
               have z2 : w'.cell? ⟨gq, 2, none⟩ = some (.int .i64 verb) := ((HLB.out.below hS HLB.out.lt).cell 2).trans rfl
               go_simp
               all_goals with_reducible rfl
              simp only [Act.put, List.setIfInBounds_toArray, List.set_cons_zero, List.set_cons_succ]
              refine det_take (v := ?_) (i := 11) (fuel := 34) (by simp; rfl) (by kernel_rfl) (by kernel_rfl) (by kernel_rfl) (Or.inl ⟨by rfl, fun w' hS => Or.inl ⟨w', ?_, hS⟩⟩) ?_
              rotate_left
              ·go_simp
               all_goals with_reducible rfl
              simp only [Act.put, List.setIfInBounds_toArray, List.set_cons_zero, List.set_cons_succ]
              refine det_take (v := ?_) (i := 12) (fuel := 33) (by simp; rfl) (by kernel_rfl) (by kernel_rfl) (by kernel_rfl) (Or.inl ⟨by rfl, fun w' hS => Or.inl ⟨w', ?_, hS⟩⟩) ?_
              rotate_left
              ·go_simp
               all_goals with_reducible rfl
              simp only [Act.put, List.setIfInBounds_toArray, List.set_cons_zero, List.set_cons_succ]
              refine det_take (v := ?_) (i := 13) (fuel := 32) (by simp; rfl) (by kernel_rfl) (by kernel_rfl) (by kernel_rfl) (Or.inl ⟨by rfl, fun w' hS => Or.inl ⟨w', ?_, hS⟩⟩) ?_
              rotate_left
              ·go_simp
               all_goals with_reducible rfl
              simp only [Act.put, List.setIfInBounds_toArray, List.set_cons_zero, List.set_cons_succ]
              refine det_take (v := ?_) (i := 14) (fuel := 31) (by simp; rfl) (by kernel_rfl) (by kernel_rfl) (by kernel_rfl) (Or.inl ⟨by rfl, fun w' hS => Or.inl ⟨w', ?_, hS⟩⟩) ?_
              rotate_left
              ·go_simp
               all_goals with_reducible rfl
              simp only [Act.put, List.setIfInBounds_toArray, List.set_cons_zero, List.set_cons_succ]
              refine det_take (v := ?_) (i := 15) (fuel := 30) (by simp; rfl) (by kernel_rfl) (by kernel_rfl) (by kernel_rfl) (Or.inl ⟨by rfl, fun w' hS => Or.inl ⟨w', ?_, hS⟩⟩) ?_
              rotate_left
              ·obtain ⟨lp, x0, x1, x2, x3, x4⟩ := PolBl.cells (Blk.below HPw.out hS (Blk.lt HPw.out))
               go_simp
               all_goals with_reducible rfl
              simp only [Act.put, List.setIfInBounds_toArray, List.set_cons_zero, List.set_cons_succ]
              refine det_take (v := ?_) (i := 16) (fuel := 29) (by simp; rfl) (by kernel_rfl) (by kernel_rfl) (by kernel_rfl) (Or.inl ⟨by rfl, fun w' hS => Or.inl ⟨w', ?_, hS⟩⟩) ?_
              rotate_left
              ·obtain ⟨lp, x0, x1, x2, x3, x4⟩ := PolBl.cells (Blk.below HPw.out hS (Blk.lt HPw.out))
               go_simp
               all_goals with_reducible rfl
              simp only [Act.put, List.setIfInBounds_toArray, List.set_cons_zero, List.set_cons_succ]
              refine det_take (v := ?_) (i := 17) (fuel := 28) (by simp; rfl) (by kernel_rfl) (by kernel_rfl) (by kernel_rfl) (Or.inl ⟨by rfl, fun w' hS => Or.inl ⟨w', ?_, hS⟩⟩) ?_
              rotate_left
              ·obtain ⟨lp, x0, x1, x2, x3, x4⟩ := PolBl.cells (Blk.below HPw.out hS (Blk.lt HPw.out))
               go_simp
               all_goals with_reducible rfl
              simp only [Act.put, List.setIfInBounds_toArray, List.set_cons_zero, List.set_cons_succ]
              refine det_take (v := ?_) (i := 18) (fuel := 27) (by simp; rfl) (by kernel_rfl) (by kernel_rfl) (by kernel_rfl) (Or.inl ⟨by rfl, fun w' hS => Or.inl ⟨w', ?_, hS⟩⟩) ?_
              rotate_left
              ·obtain ⟨lp, x0, x1, x2, x3, x4⟩ := PolBl.cells (Blk.below HPw.out hS (Blk.lt HPw.out))
               rw [HA2.out] at x2
               go_simp
               all_goals with_reducible rfl
              simp only [Act.put, List.setIfInBounds_toArray, List.set_cons_zero, List.set_cons_succ]
              refine det_take (v := ?_) (i := 19) (fuel := 26) (by simp; rfl) (by kernel_rfl) (by kernel_rfl) (by kernel_rfl) (Or.inl ⟨by rfl, fun w' hS => Or.inl ⟨w', ?_, hS⟩⟩) ?_
              rotate_left
              ·go_simp
               all_goals with_reducible rfl
              simp only [Act.put, List.setIfInBounds_toArray, List.set_cons_zero, List.set_cons_succ]
              refine det_take (v := ?_) (i := 20) (fuel := 25) (by simp; rfl) (by kernel_rfl) (by kernel_rfl) (by kernel_rfl) (Or.inl ⟨by rfl, fun w' hS => Or.inl ⟨w', ?_, hS⟩⟩) ?_
              rotate_left
              ·go_simp
               all_goals with_reducible rfl
              simp only [Act.put, List.setIfInBounds_toArray, List.set_cons_zero, List.set_cons_succ]
              refine det_take (v := ?_) (i := 21) (fuel := 24) (by simp; rfl) (by kernel_rfl) (by kernel_rfl) (by kernel_rfl) (Or.inl ⟨by rfl, fun w' hS => Or.inl ⟨w', ?_, hS⟩⟩) ?_
              rotate_left
              ·go_simp
               all_goals with_reducible rfl
              simp only [Act.put, List.setIfInBounds_toArray, List.set_cons_zero, List.set_cons_succ]
              refine det_take (v := ?_) (i := 22) (fuel := 23) (by simp; rfl) (by kernel_rfl) (by kernel_rfl) (by kernel_rfl) (Or.inl ⟨by rfl, fun w' hS => Or.inl ⟨w', ?_, hS⟩⟩) ?_
              rotate_left
              ·have y1 : w'.cell? ⟨g2, o2 + i * 3 + 2, none⟩ = some (.int .u64 (ro : Int)) := (hS.cell (p := ⟨g2, o2 + i * 3 + 2, none⟩) hgW).trans HD.out
               go_simp
               all_goals with_reducible rfl
              simp only [Act.put, List.setIfInBounds_toArray, List.set_cons_zero, List.set_cons_succ]
              refine det_take (v := ?_) (i := 23) (fuel := 22) (by simp; rfl) (by kernel_rfl) (by kernel_rfl) (by kernel_rfl) (Or.inl ⟨by rfl, fun w' hS => Or.inl ⟨w', ?_, hS⟩⟩) ?_
              rotate_left
              ·have zl := (HLB.out.below hS HLB.out.lt).lt
               go_simp
               all_goals with_reducible rfl
              simp only [Act.put, List.setIfInBounds_toArray, List.set_cons_zero, List.set_cons_succ]
              refine det_take (v := ?_) (i := 24) (fuel := 21) (by simp; rfl) (by kernel_rfl) (by kernel_rfl) (by kernel_rfl) (Or.inl ⟨by rfl, fun w' hS => Or.inl ⟨w', ?_, hS⟩⟩) ?_
              rotate_left
              ·have zl := (HLB.out.below hS HLB.out.lt).lt
               have z1 : w'.cell? ⟨gq, 1, none⟩ = some (.int .i64 role) := ((HLB.out.below hS HLB.out.lt).cell 1).trans rfl
               go_simp
               all_goals with_reducible rfl
              simp only [Act.put, List.setIfInBounds_toArray, List.set_cons_zero, List.set_cons_succ]
              refine det_take (v := ?_) (i := 25) (fuel := 20) (by simp; rfl) (by kernel_rfl) (by kernel_rfl) (by kernel_rfl) (Or.inl ⟨by rfl, fun w' hS => Or.inr ⟨33, #[.slice s.Au nu s.cu, .int .u64 (ro : Int), .int .i64 role], w', ?_, ?_⟩⟩) ?_
              rotate_left
              ·go_simp
               all_goals with_reducible rfl
              ·exact (HHX.out w' hS).mono fun e w2 h => ⟨by rw [h.1], h.2 ▸ hS⟩
              simp only [Act.put, List.setIfInBounds_toArray, List.set_cons_zero, List.set_cons_succ]
              refine det_take (v := ?_) (i := 26) (fuel := 19) (by simp; rfl) (by kernel_rfl) (by kernel_rfl) (by kernel_rfl) (Or.inl ⟨by rfl, fun w' hS => Or.inl ⟨w', ?_, hS⟩⟩) ?_
              rotate_left
              ·go_simp
               all_goals with_reducible rfl
              simp only [Act.put, List.setIfInBounds_toArray, List.set_cons_zero, List.set_cons_succ]
              refine det_take (v := ?_) (i := 27) (fuel := 18) (by simp; rfl) (by kernel_rfl) (by kernel_rfl) (by kernel_rfl) (Or.inl ⟨by rfl, fun w' hS => Or.inl ⟨w', ?_, hS⟩⟩) ?_
              rotate_left
              ·go_simp
               all_goals with_reducible rfl
              simp only [Act.put, List.setIfInBounds_toArray, List.set_cons_zero, List.set_cons_succ]
              refine det_take (v := undef) (i := 28) (fuel := 17) (by simp; rfl) (by kernel_rfl) (by kernel_rfl) (by kernel_rfl) (Or.inr ⟨by rfl, by rfl⟩) ?_
              simp only [Act.put, List.setIfInBounds_toArray, List.set_cons_zero, List.set_cons_succ]
              refine det_take (v := undef) (i := 29) (fuel := 16) (by simp; rfl) (by kernel_rfl) (by kernel_rfl) (by kernel_rfl) (Or.inr ⟨by rfl, by rfl⟩) ?_
              simp only [Act.put, List.setIfInBounds_toArray, List.set_cons_zero, List.set_cons_succ]
              refine det_take (v := undef) (i := 30) (fuel := 15) (by simp; rfl) (by kernel_rfl) (by kernel_rfl) (by kernel_rfl) (Or.inr ⟨by rfl, by rfl⟩) ?_
              simp only [Act.put, List.setIfInBounds_toArray, List.set_cons_zero, List.set_cons_succ]
              refine det_take (v := undef) (i := 31) (fuel := 14) (by simp; rfl) (by kernel_rfl) (by kernel_rfl) (by kernel_rfl) (Or.inr ⟨by rfl, by rfl⟩) ?_
              simp only [Act.put, List.setIfInBounds_toArray, List.set_cons_zero, List.set_cons_succ]
              refine det_take (v := undef) (i := 32) (fuel := 13) (by simp; rfl) (by kernel_rfl) (by kernel_rfl) (by kernel_rfl) (Or.inr ⟨by rfl, by rfl⟩) ?_
              simp only [Act.put, List.setIfInBounds_toArray, List.set_cons_zero, List.set_cons_succ]
              refine det_take (v := undef) (i := 33) (fuel := 12) (by simp; rfl) (by kernel_rfl) (by kernel_rfl) (by kernel_rfl) (Or.inr ⟨by rfl, by rfl⟩) ?_
              simp only [Act.put, List.setIfInBounds_toArray, List.set_cons_zero, List.set_cons_succ]
              refine det_take (v := undef) (i := 34) (fuel := 11) (by simp; rfl) (by kernel_rfl) (by kernel_rfl) (by kernel_rfl) (Or.inr ⟨by rfl, by rfl⟩) ?_
              simp only [Act.put, List.setIfInBounds_toArray, List.set_cons_zero, List.set_cons_succ]
              refine det_take (v := undef) (i := 35) (fuel := 10) (by simp; rfl) (by kernel_rfl) (by kernel_rfl) (by kernel_rfl) (Or.inr ⟨by rfl, by rfl⟩) ?_
              simp only [Act.put, List.setIfInBounds_toArray, List.set_cons_zero, List.set_cons_succ]
              refine det_take (v := undef) (i := 36) (fuel := 9) (by simp; rfl) (by kernel_rfl) (by kernel_rfl) (by kernel_rfl) (Or.inr ⟨by rfl, by rfl⟩) ?_
              simp only [Act.put, List.setIfInBounds_toArray, List.set_cons_zero, List.set_cons_succ]
              refine det_take (v := undef) (i := 37) (fuel := 8) (by simp; rfl) (by kernel_rfl) (by kernel_rfl) (by kernel_rfl) (Or.inr ⟨by rfl, by rfl⟩) ?_
              simp only [Act.put, List.setIfInBounds_toArray, List.set_cons_zero, List.set_cons_succ]
              refine det_take (v := undef) (i := 38) (fuel := 7) (by simp; rfl) (by kernel_rfl) (by kernel_rfl) (by kernel_rfl) (Or.inr ⟨by rfl, by rfl⟩) ?_
              simp only [Act.put, List.setIfInBounds_toArray, List.set_cons_zero, List.set_cons_succ]
              refine det_take (v := undef) (i := 39) (fuel := 6) (by simp; rfl) (by kernel_rfl) (by kernel_rfl) (by kernel_rfl) (Or.inr ⟨by rfl, by rfl⟩) ?_
              simp only [Act.put, List.setIfInBounds_toArray, List.set_cons_zero, List.set_cons_succ]
              refine det_take (v := undef) (i := 40) (fuel := 5) (by simp; rfl) (by kernel_rfl) (by kernel_rfl) (by kernel_rfl) (Or.inr ⟨by rfl, by rfl⟩) ?_
              simp only [Act.put, List.setIfInBounds_toArray, List.set_cons_zero, List.set_cons_succ]
              refine det_take (v := undef) (i := 41) (fuel := 4) (by simp; rfl) (by kernel_rfl) (by kernel_rfl) (by kernel_rfl) (Or.inr ⟨by rfl, by rfl⟩) ?_
              simp only [Act.put, List.setIfInBounds_toArray, List.set_cons_zero, List.set_cons_succ]
              refine det_take (v := undef) (i := 42) (fuel := 3) (by simp; rfl) (by kernel_rfl) (by kernel_rfl) (by kernel_rfl) (Or.inr ⟨by rfl, by rfl⟩) ?_
              simp only [Act.put, List.setIfInBounds_toArray, List.set_cons_zero, List.set_cons_succ]
              refine det_take (v := undef) (i := 43) (fuel := 2) (by simp; rfl) (by kernel_rfl) (by kernel_rfl) (by kernel_rfl) (Or.inr ⟨by rfl, by rfl⟩) ?_
              simp only [Act.put, List.setIfInBounds_toArray, List.set_cons_zero, List.set_cons_succ]
              refine det_take (v := undef) (i := 44) (fuel := 1) (by simp; rfl) (by kernel_rfl) (by kernel_rfl) (by kernel_rfl) (Or.inr ⟨by rfl, by rfl⟩) ?_
              simp only [Act.put, List.setIfInBounds_toArray, List.set_cons_zero, List.set_cons_succ]
              refine det_take (v := ?_) (i := 45) (fuel := 0) (by simp; rfl) (by kernel_rfl) (by kernel_rfl) (by kernel_rfl) (Or.inl ⟨by rfl, fun w' hS => Or.inl ⟨w', ?_, hS⟩⟩) ?_
              rotate_left
              ·go_simp
               all_goals with_reducible rfl
              simp only [Act.put, List.setIfInBounds_toArray, List.set_cons_zero, List.set_cons_succ]
              refine det_done (by kernel_rfl) (fun V hV => ?_) _
              have HV9 := Lib.hid (HSw.out.trans (hV.mono HSw.out.size))
              have hN : tagM (spk P ro vb e) (P.rules.take (j + 1)) = t1 := by rw [tagM_no HGR.out HSZ.out, HT1.out]
              have HR9 := Lib.hid (And.intro (show decide (tagM (spk P ro vb e) (P.rules.take (j + 1)) ≠ 0) = b1 by rw [hN]; exact HD1.out) (show decide (tagM (spk P ro vb e) (P.rules.take (j + 1)) = 2) = b2 by rw [hN]; exact HD2.out))
              clear hN
              go_wp2
              go_roundw
              case rel => exact ⟨j + 1, HJ.out, by go_num, by rw [HR9.out.1], by rw [HR9.out.2], HV9.out⟩
              case measure => simp [intOf]; omega
             ·skip
              by_cases h0 : p = 0
              ·have hp0 : ((p : Int) == 0) = true := by simp; omega
               have hee : e = en := by have := HE.out; omega
               by_cases j3 : ent = en
               ·have hb6 : (ent == en) = true := by simp; omega
                have HSZ := Lib.hid (show spk P ro vb e ⟨tag, role, verb, ent, grp, line, neg, c0, c1, sc, toS, toL⟩ = true by rw [HSY.out]; rw [decide_eq_true (show tag = 1 ∨ tag = 2 from by have := HTG.out; omega), decide_eq_true J1.out, hee, decide_eq_true j3]; rfl)
                clear j3 hee
                refine wp_region_det (S := fun V => Below W2.heap.size W2 V) (by kernel_rfl) (Below.refl W2.heap.size W2).drew ?_
                refine det_take (v := ?_) (i := 0) (fuel := 45) (by simp; rfl) (by kernel_rfl) (by kernel_rfl) (by kernel_rfl) (Or.inl ⟨by rfl, fun w' hS => Or.inl ⟨w', ?_, hS⟩⟩) ?_
                rotate_left
                ·have zl := (HLB.out.below hS HLB.out.lt).lt
                 go_simp
                 all_goals with_reducible rfl
                simp only [Act.put, List.setIfInBounds_toArray, List.set_cons_zero, List.set_cons_succ]
                refine det_take (v := ?_) (i := 1) (fuel := 44) (by simp; rfl) (by kernel_rfl) (by kernel_rfl) (by kernel_rfl) (Or.inl ⟨by rfl, fun w' hS => Or.inl ⟨w', ?_, hS⟩⟩) ?_
                rotate_left
                ·have zl := (HLB.out.below hS HLB.out.lt).lt
                 have z0 : w'.cell? ⟨gq, 0, none⟩ = some (.int .i64 tag) := ((HLB.out.below hS HLB.out.lt).cell 0).trans rfl
                 go_simp
                 all_goals with_reducible rfl
                simp only [Act.put, List.setIfInBounds_toArray, List.set_cons_zero, List.set_cons_succ]
                refine det_take (v := ?_) (i := 2) (fuel := 43) (by simp; rfl) (by kernel_rfl) (by kernel_rfl) (by kernel_rfl) (Or.inl ⟨by rfl, fun w' hS => Or.inl ⟨w', ?_, hS⟩⟩) ?_
                rotate_left
                ·go_simp
                 all_goals with_reducible rfl
                simp only [Act.put, List.setIfInBounds_toArray, List.set_cons_zero, List.set_cons_succ]
                refine det_take (v := ?_) (i := 3) (fuel := 42) (by simp; rfl) (by kernel_rfl) (by kernel_rfl) (by kernel_rfl) (Or.inl ⟨by rfl, fun w' hS => Or.inl ⟨w', ?_, hS⟩⟩) ?_
                rotate_left
                ·go_simp
                 all_goals with_reducible rfl
                simp only [Act.put, List.setIfInBounds_toArray, List.set_cons_zero, List.set_cons_succ]
                refine det_take (v := ?_) (i := 4) (fuel := 41) (by simp; rfl) (by kernel_rfl) (by kernel_rfl) (by kernel_rfl) (Or.inl ⟨by rfl, fun w' hS => Or.inl ⟨w', ?_, hS⟩⟩) ?_
                rotate_left
                ·have zl := (HLB.out.below hS HLB.out.lt).lt
                 go_simp
                 all_goals with_reducible rfl
                simp only [Act.put, List.setIfInBounds_toArray, List.set_cons_zero, List.set_cons_succ]
                refine det_take (v := ?_) (i := 5) (fuel := 40) (by simp; rfl) (by kernel_rfl) (by kernel_rfl) (by kernel_rfl) (Or.inl ⟨by rfl, fun w' hS => Or.inl ⟨w', ?_, hS⟩⟩) ?_
                rotate_left
                ·have zl := (HLB.out.below hS HLB.out.lt).lt
                 have z0 : w'.cell? ⟨gq, 0, none⟩ = some (.int .i64 tag) := ((HLB.out.below hS HLB.out.lt).cell 0).trans rfl
                 go_simp
                 all_goals with_reducible rfl
                simp only [Act.put, List.setIfInBounds_toArray, List.set_cons_zero, List.set_cons_succ]
                refine det_take (v := ?_) (i := 6) (fuel := 39) (by simp; rfl) (by kernel_rfl) (by kernel_rfl) (by kernel_rfl) (Or.inl ⟨by rfl, fun w' hS => Or.inl ⟨w', ?_, hS⟩⟩) ?_
                rotate_left
                ·go_simp
                 all_goals with_reducible rfl
                simp only [Act.put, List.setIfInBounds_toArray, List.set_cons_zero, List.set_cons_succ]
                refine det_take (v := ?_) (i := 7) (fuel := 38) (by simp; rfl) (by kernel_rfl) (by kernel_rfl) (by kernel_rfl) (Or.inl ⟨by rfl, fun w' hS => Or.inl ⟨w', ?_, hS⟩⟩) ?_
                rotate_left
                ·go_simp
                 all_goals with_reducible rfl
                simp only [Act.put, List.setIfInBounds_toArray, List.set_cons_zero, List.set_cons_succ]
                refine det_take (v := ?_) (i := 8) (fuel := 37) (by simp; rfl) (by kernel_rfl) (by kernel_rfl) (by kernel_rfl) (Or.inl ⟨by rfl, fun w' hS => Or.inl ⟨w', ?_, hS⟩⟩) ?_
                rotate_left
                ·go_simp
                 all_goals with_reducible rfl
                simp only [Act.put, List.setIfInBounds_toArray, List.set_cons_zero, List.set_cons_succ]
                refine det_take (v := ?_) (i := 9) (fuel := 36) (by simp; rfl) (by kernel_rfl) (by kernel_rfl) (by kernel_rfl) (Or.inl ⟨by rfl, fun w' hS => Or.inl ⟨w', ?_, hS⟩⟩) ?_
                rotate_left
                ·have zl := (HLB.out.below hS HLB.out.lt).lt
                 go_simp
                 all_goals with_reducible rfl
                simp only [Act.put, List.setIfInBounds_toArray, List.set_cons_zero, List.set_cons_succ]
                refine det_take (v := ?_) (i := 10) (fuel := 35) (by simp; rfl) (by kernel_rfl) (by kernel_rfl) (by kernel_rfl) (Or.inl ⟨by rfl, fun w' hS => Or.inl ⟨w', ?_, hS⟩⟩) ?_
                rotate_left
                ·have zl := (HLB.out.below hS HLB.out.lt).lt
                 have z2 : w'.cell? ⟨gq, 2, none⟩ = some (.int .i64 verb) := ((HLB.out.below hS HLB.out.lt).cell 2).trans rfl
                 go_simp
                 all_goals with_reducible rfl
                simp only [Act.put, List.setIfInBounds_toArray, List.set_cons_zero, List.set_cons_succ]
                refine det_take (v := ?_) (i := 11) (fuel := 34) (by simp; rfl) (by kernel_rfl) (by kernel_rfl) (by kernel_rfl) (Or.inl ⟨by rfl, fun w' hS => Or.inl ⟨w', ?_, hS⟩⟩) ?_
                rotate_left
                ·go_simp
                 all_goals with_reducible rfl
                simp only [Act.put, List.setIfInBounds_toArray, List.set_cons_zero, List.set_cons_succ]
                refine det_take (v := ?_) (i := 12) (fuel := 33) (by simp; rfl) (by kernel_rfl) (by kernel_rfl) (by kernel_rfl) (Or.inl ⟨by rfl, fun w' hS => Or.inl ⟨w', ?_, hS⟩⟩) ?_
                rotate_left
                ·go_simp
                 all_goals with_reducible rfl
                simp only [Act.put, List.setIfInBounds_toArray, List.set_cons_zero, List.set_cons_succ]
                refine det_take (v := ?_) (i := 13) (fuel := 32) (by simp; rfl) (by kernel_rfl) (by kernel_rfl) (by kernel_rfl) (Or.inl ⟨by rfl, fun w' hS => Or.inl ⟨w', ?_, hS⟩⟩) ?_
                rotate_left
                ·go_simp
                 all_goals with_reducible rfl
                simp only [Act.put, List.setIfInBounds_toArray, List.set_cons_zero, List.set_cons_succ]
                refine det_take (v := ?_) (i := 14) (fuel := 31) (by simp; rfl) (by kernel_rfl) (by kernel_rfl) (by kernel_rfl) (Or.inl ⟨by rfl, fun w' hS => Or.inl ⟨w', ?_, hS⟩⟩) ?_
                rotate_left
                ·go_simp
                 all_goals with_reducible rfl
                simp only [Act.put, List.setIfInBounds_toArray, List.set_cons_zero, List.set_cons_succ]
                refine det_take (v := ?_) (i := 15) (fuel := 30) (by simp; rfl) (by kernel_rfl) (by kernel_rfl) (by kernel_rfl) (Or.inl ⟨by rfl, fun w' hS => Or.inl ⟨w', ?_, hS⟩⟩) ?_
                rotate_left
                ·obtain ⟨lp, x0, x1, x2, x3, x4⟩ := PolBl.cells (Blk.below HPw.out hS (Blk.lt HPw.out))
                 go_simp
                 all_goals with_reducible rfl
                simp only [Act.put, List.setIfInBounds_toArray, List.set_cons_zero, List.set_cons_succ]
                refine det_take (v := ?_) (i := 16) (fuel := 29) (by simp; rfl) (by kernel_rfl) (by kernel_rfl) (by kernel_rfl) (Or.inl ⟨by rfl, fun w' hS => Or.inl ⟨w', ?_, hS⟩⟩) ?_
                rotate_left
                ·obtain ⟨lp, x0, x1, x2, x3, x4⟩ := PolBl.cells (Blk.below HPw.out hS (Blk.lt HPw.out))
                 go_simp
                 all_goals with_reducible rfl
                simp only [Act.put, List.setIfInBounds_toArray, List.set_cons_zero, List.set_cons_succ]
                refine det_take (v := ?_) (i := 17) (fuel := 28) (by simp; rfl) (by kernel_rfl) (by kernel_rfl) (by kernel_rfl) (Or.inl ⟨by rfl, fun w' hS => Or.inl ⟨w', ?_, hS⟩⟩) ?_
                rotate_left
                ·obtain ⟨lp, x0, x1, x2, x3, x4⟩ := PolBl.cells (Blk.below HPw.out hS (Blk.lt HPw.out))
                 go_simp
                 all_goals with_reducible rfl
                simp only [Act.put, List.setIfInBounds_toArray, List.set_cons_zero, List.set_cons_succ]
                refine det_take (v := ?_) (i := 18) (fuel := 27) (by simp; rfl) (by kernel_rfl) (by kernel_rfl) (by kernel_rfl) (Or.inl ⟨by rfl, fun w' hS => Or.inl ⟨w', ?_, hS⟩⟩) ?_
                rotate_left
                ·obtain ⟨lp, x0, x1, x2, x3, x4⟩ := PolBl.cells (Blk.below HPw.out hS (Blk.lt HPw.out))
                 rw [HA2.out] at x2
                 go_simp
                 all_goals with_reducible rfl
                simp only [Act.put, List.setIfInBounds_toArray, List.set_cons_zero, List.set_cons_succ]
                refine det_take (v := ?_) (i := 19) (fuel := 26) (by simp; rfl) (by kernel_rfl) (by kernel_rfl) (by kernel_rfl) (Or.inl ⟨by rfl, fun w' hS => Or.inl ⟨w', ?_, hS⟩⟩) ?_
                rotate_left
                ·go_simp
                 all_goals with_reducible rfl
                simp only [Act.put, List.setIfInBounds_toArray, List.set_cons_zero, List.set_cons_succ]
                refine det_take (v := ?_) (i := 20) (fuel := 25) (by simp; rfl) (by kernel_rfl) (by kernel_rfl) (by kernel_rfl) (Or.inl ⟨by rfl, fun w' hS => Or.inl ⟨w', ?_, hS⟩⟩) ?_
                rotate_left
                ·go_simp
                 all_goals with_reducible rfl
                simp only [Act.put, List.setIfInBounds_toArray, List.set_cons_zero, List.set_cons_succ]
                refine det_take (v := ?_) (i := 21) (fuel := 24) (by simp; rfl) (by kernel_rfl) (by kernel_rfl) (by kernel_rfl) (Or.inl ⟨by rfl, fun w' hS => Or.inl ⟨w', ?_, hS⟩⟩) ?_
                rotate_left
                ·go_simp
                 all_goals with_reducible rfl
                simp only [Act.put, List.setIfInBounds_toArray, List.set_cons_zero, List.set_cons_succ]
                refine det_take (v := ?_) (i := 22) (fuel := 23) (by simp; rfl) (by kernel_rfl) (by kernel_rfl) (by kernel_rfl) (Or.inl ⟨by rfl, fun w' hS => Or.inl ⟨w', ?_, hS⟩⟩) ?_
                rotate_left
                ·have y1 : w'.cell? ⟨g2, o2 + i * 3 + 2, none⟩ = some (.int .u64 (ro : Int)) := (hS.cell (p := ⟨g2, o2 + i * 3 + 2, none⟩) hgW).trans HD.out
                 go_simp
                 all_goals with_reducible rfl
                simp only [Act.put, List.setIfInBounds_toArray, List.set_cons_zero, List.set_cons_succ]
                refine det_take (v := ?_) (i := 23) (fuel := 22) (by simp; rfl) (by kernel_rfl) (by kernel_rfl) (by kernel_rfl) (Or.inl ⟨by rfl, fun w' hS => Or.inl ⟨w', ?_, hS⟩⟩) ?_
                rotate_left
                ·have zl := (HLB.out.below hS HLB.out.lt).lt
                 go_simp
                 all_goals with_reducible rfl
                simp only [Act.put, List.setIfInBounds_toArray, List.set_cons_zero, List.set_cons_succ]
                refine det_take (v := ?_) (i := 24) (fuel := 21) (by simp; rfl) (by kernel_rfl) (by kernel_rfl) (by kernel_rfl) (Or.inl ⟨by rfl, fun w' hS => Or.inl ⟨w', ?_, hS⟩⟩) ?_
                rotate_left
                ·have zl := (HLB.out.below hS HLB.out.lt).lt
                 have z1 : w'.cell? ⟨gq, 1, none⟩ = some (.int .i64 role) := ((HLB.out.below hS HLB.out.lt).cell 1).trans rfl
                 go_simp
                 all_goals with_reducible rfl
                simp only [Act.put, List.setIfInBounds_toArray, List.set_cons_zero, List.set_cons_succ]
                refine det_take (v := ?_) (i := 25) (fuel := 20) (by simp; rfl) (by kernel_rfl) (by kernel_rfl) (by kernel_rfl) (Or.inl ⟨by rfl, fun w' hS => Or.inr ⟨33, #[.slice s.Au nu s.cu, .int .u64 (ro : Int), .int .i64 role], w', ?_, ?_⟩⟩) ?_
                rotate_left
                ·go_simp
                 all_goals with_reducible rfl
                ·exact (HHX.out w' hS).mono fun e w2 h => ⟨by rw [h.1], h.2 ▸ hS⟩
                simp only [Act.put, List.setIfInBounds_toArray, List.set_cons_zero, List.set_cons_succ]
                refine det_take (v := ?_) (i := 26) (fuel := 19) (by simp; rfl) (by kernel_rfl) (by kernel_rfl) (by kernel_rfl) (Or.inl ⟨by rfl, fun w' hS => Or.inl ⟨w', ?_, hS⟩⟩) ?_
                rotate_left
                ·go_simp
                 all_goals with_reducible rfl
                simp only [Act.put, List.setIfInBounds_toArray, List.set_cons_zero, List.set_cons_succ]
                refine det_take (v := ?_) (i := 27) (fuel := 18) (by simp; rfl) (by kernel_rfl) (by kernel_rfl) (by kernel_rfl) (Or.inl ⟨by rfl, fun w' hS => Or.inl ⟨w', ?_, hS⟩⟩) ?_
                rotate_left
                ·go_simp
                 all_goals with_reducible rfl
                simp only [Act.put, List.setIfInBounds_toArray, List.set_cons_zero, List.set_cons_succ]
                refine det_take (v := ?_) (i := 28) (fuel := 17) (by simp; rfl) (by kernel_rfl) (by kernel_rfl) (by kernel_rfl) (Or.inl ⟨by rfl, fun w' hS => Or.inl ⟨w', ?_, hS⟩⟩) ?_
                rotate_left
                ·go_simp
                 all_goals with_reducible rfl
                simp only [Act.put, List.setIfInBounds_toArray, List.set_cons_zero, List.set_cons_succ]
                refine det_take (v := ?_) (i := 29) (fuel := 16) (by simp; rfl) (by kernel_rfl) (by kernel_rfl) (by kernel_rfl) (Or.inl ⟨by rfl, fun w' hS => Or.inl ⟨w', ?_, hS⟩⟩) ?_
                rotate_left
                ·go_simp
                 all_goals with_reducible rfl
                simp only [Act.put, List.setIfInBounds_toArray, List.set_cons_zero, List.set_cons_succ]
                refine det_take (v := ?_) (i := 30) (fuel := 15) (by simp; rfl) (by kernel_rfl) (by kernel_rfl) (by kernel_rfl) (Or.inl ⟨by rfl, fun w' hS => Or.inl ⟨w', ?_, hS⟩⟩) ?_
                rotate_left
                ·go_simp
                 all_goals with_reducible rfl
                simp only [Act.put, List.setIfInBounds_toArray, List.set_cons_zero, List.set_cons_succ]
                refine det_take (v := ?_) (i := 31) (fuel := 14) (by simp; rfl) (by kernel_rfl) (by kernel_rfl) (by kernel_rfl) (Or.inl ⟨by rfl, fun w' hS => Or.inl ⟨w', ?_, hS⟩⟩) ?_
                rotate_left
                ·have zl := (HLB.out.below hS HLB.out.lt).lt
                 go_simp
                 all_goals with_reducible rfl
                simp only [Act.put, List.setIfInBounds_toArray, List.set_cons_zero, List.set_cons_succ]
                refine det_take (v := ?_) (i := 32) (fuel := 13) (by simp; rfl) (by kernel_rfl) (by kernel_rfl) (by kernel_rfl) (Or.inl ⟨by rfl, fun w' hS => Or.inl ⟨w', ?_, hS⟩⟩) ?_
                rotate_left
                ·have zl := (HLB.out.below hS HLB.out.lt).lt
                 have z3 : w'.cell? ⟨gq, 3, none⟩ = some (.int .i64 ent) := ((HLB.out.below hS HLB.out.lt).cell 3).trans rfl
                 go_simp
                 all_goals with_reducible rfl
                simp only [Act.put, List.setIfInBounds_toArray, List.set_cons_zero, List.set_cons_succ]
                refine det_take (v := ?_) (i := 33) (fuel := 12) (by simp; rfl) (by kernel_rfl) (by kernel_rfl) (by kernel_rfl) (Or.inl ⟨by rfl, fun w' hS => Or.inl ⟨w', ?_, hS⟩⟩) ?_
                rotate_left
                ·go_simp
                 all_goals with_reducible rfl
                simp only [Act.put, List.setIfInBounds_toArray, List.set_cons_zero, List.set_cons_succ]
                refine det_take (v := ?_) (i := 34) (fuel := 11) (by simp; rfl) (by kernel_rfl) (by kernel_rfl) (by kernel_rfl) (Or.inl ⟨by rfl, fun w' hS => Or.inl ⟨w', ?_, hS⟩⟩) ?_
                rotate_left
                ·go_simp
                 all_goals with_reducible rfl
                simp only [Act.put, List.setIfInBounds_toArray, List.set_cons_zero, List.set_cons_succ]
                refine det_take (v := ?_) (i := 35) (fuel := 10) (by simp; rfl) (by kernel_rfl) (by kernel_rfl) (by kernel_rfl) (Or.inl ⟨by rfl, fun w' hS => Or.inl ⟨w', ?_, hS⟩⟩) ?_
                rotate_left
                ·go_simp
                 all_goals with_reducible rfl
                simp only [Act.put, List.setIfInBounds_toArray, List.set_cons_zero, List.set_cons_succ]
                refine det_take (v := ?_) (i := 36) (fuel := 9) (by simp; rfl) (by kernel_rfl) (by kernel_rfl) (by kernel_rfl) (Or.inl ⟨by rfl, fun w' hS => Or.inl ⟨w', ?_, hS⟩⟩) ?_
                rotate_left
                ·go_simp
                 all_goals with_reducible rfl
                simp only [Act.put, List.setIfInBounds_toArray, List.set_cons_zero, List.set_cons_succ]
                refine det_take (v := undef) (i := 37) (fuel := 8) (by simp; rfl) (by kernel_rfl) (by kernel_rfl) (by kernel_rfl) (Or.inr ⟨by rfl, by rfl⟩) ?_
                simp only [Act.put, List.setIfInBounds_toArray, List.set_cons_zero, List.set_cons_succ]
                refine det_take (v := undef) (i := 38) (fuel := 7) (by simp; rfl) (by kernel_rfl) (by kernel_rfl) (by kernel_rfl) (Or.inr ⟨by rfl, by rfl⟩) ?_
                simp only [Act.put, List.setIfInBounds_toArray, List.set_cons_zero, List.set_cons_succ]
                refine det_take (v := undef) (i := 39) (fuel := 6) (by simp; rfl) (by kernel_rfl) (by kernel_rfl) (by kernel_rfl) (Or.inr ⟨by rfl, by rfl⟩) ?_
                simp only [Act.put, List.setIfInBounds_toArray, List.set_cons_zero, List.set_cons_succ]
                refine det_take (v := undef) (i := 40) (fuel := 5) (by simp; rfl) (by kernel_rfl) (by kernel_rfl) (by kernel_rfl) (Or.inr ⟨by rfl, by rfl⟩) ?_
                simp only [Act.put, List.setIfInBounds_toArray, List.set_cons_zero, List.set_cons_succ]
                refine det_take (v := undef) (i := 41) (fuel := 4) (by simp; rfl) (by kernel_rfl) (by kernel_rfl) (by kernel_rfl) (Or.inr ⟨by rfl, by rfl⟩) ?_
                simp only [Act.put, List.setIfInBounds_toArray, List.set_cons_zero, List.set_cons_succ]
                refine det_take (v := undef) (i := 42) (fuel := 3) (by simp; rfl) (by kernel_rfl) (by kernel_rfl) (by kernel_rfl) (Or.inr ⟨by rfl, by rfl⟩) ?_
                simp only [Act.put, List.setIfInBounds_toArray, List.set_cons_zero, List.set_cons_succ]
                refine det_take (v := undef) (i := 43) (fuel := 2) (by simp; rfl) (by kernel_rfl) (by kernel_rfl) (by kernel_rfl) (Or.inr ⟨by rfl, by rfl⟩) ?_
                simp only [Act.put, List.setIfInBounds_toArray, List.set_cons_zero, List.set_cons_succ]
                refine det_take (v := ?_) (i := 44) (fuel := 1) (by simp; rfl) (by kernel_rfl) (by kernel_rfl) (by kernel_rfl) (Or.inl ⟨by rfl, fun w' hS => Or.inl ⟨w', ?_, hS⟩⟩) ?_
                rotate_left
                ·go_simp
                 all_goals with_reducible rfl
                simp only [Act.put, List.setIfInBounds_toArray, List.set_cons_zero, List.set_cons_succ]
                refine det_take (v := ?_) (i := 45) (fuel := 0) (by simp; rfl) (by kernel_rfl) (by kernel_rfl) (by kernel_rfl) (Or.inl ⟨by rfl, fun w' hS => Or.inl ⟨w', ?_, hS⟩⟩) ?_
                rotate_left
                ·go_simp
                 all_goals with_reducible rfl
                simp only [Act.put, List.setIfInBounds_toArray, List.set_cons_zero, List.set_cons_succ]
                refine det_done (by kernel_rfl) (fun V hV => ?_) _
                have HV9 := Lib.hid (HSw.out.trans (hV.mono HSw.out.size))
                have hN : tagM (spk P ro vb e) (P.rules.take (j + 1)) = max t1 tag := by rw [tagM_yes HGR.out HSZ.out, HT1.out]
                have e1 : decide (tagM (spk P ro vb e) (P.rules.take (j + 1)) ≠ 0) = true := decide_eq_true (by rw [hN]; have := HTG.out; have := HRG.out; omega)
                obtain ⟨b3, hb3⟩ : ∃ b, decide (tagM (spk P ro vb e) (P.rules.take (j + 1)) = 2) = b := ⟨_, rfl⟩
                have hb3' : b3 = (b2 || (tag == 2)) := by
                 rw [← hb3, hN, ← HD2.out, Bool.eq_iff_iff, Bool.or_eq_true, decide_eq_true_eq, decide_eq_true_eq, beq_iff_eq]
                 have := HTG.out
                 have := HRG.out
                 omega
                have HR9 := Lib.hid (And.intro e1 hb3)
                have u0 : V.cell? ⟨gq, 0, none⟩ = some (.int .i64 tag) := ((HLB.out.below hV HLB.out.lt).cell 0).trans rfl
                have ul := (HLB.out.below hV HLB.out.lt).lt
                obtain ⟨b4, hb4⟩ : ∃ b, (tag == 2) = b := ⟨_, rfl⟩
                have HB4 := Lib.hid hb4
                rw [hb4] at hb3'
                clear hN e1 hb3
                cases b2
                ·obtain rfl : b3 = b4 := by simpa using hb3'
                 clear hb3'
                 go_wp2
                 go_roundw
                 case rel => exact ⟨j + 1, HJ.out, by go_num, by rw [HR9.out.1], by rw [HR9.out.2]; first | done | rfl | exact congrArg Value.bool (HQT.out.symm.trans HB4.out), HV9.out⟩
                 case measure => simp [intOf]; omega
                ·obtain rfl : b3 = true := by simpa using hb3'
                 clear hb3'
                 go_wp2
                 go_roundw
                 case rel => exact ⟨j + 1, HJ.out, by go_num, by rw [HR9.out.1], by rw [HR9.out.2], HV9.out⟩
                 case measure => simp [intOf]; omega
               ·have hb6 : (ent == en) = false := by simp; omega
                have hp1 : ((p : Int) == 1) = false := by simp; omega
                have HSZ := Lib.hid (show spk P ro vb e ⟨tag, role, verb, ent, grp, line, neg, c0, c1, sc, toS, toL⟩ = false by rw [HSY.out]; rw [hee, decide_eq_false j3, Bool.and_false, Bool.and_false, Bool.and_false])
                clear j3 hee
                refine wp_region_det (S := fun V => Below W2.heap.size W2 V) (by kernel_rfl) (Below.refl W2.heap.size W2).drew ?_
                refine det_take (v := ?_) (i := 0) (fuel := 45) (by simp; rfl) (by kernel_rfl) (by kernel_rfl) (by kernel_rfl) (Or.inl ⟨by rfl, fun w' hS => Or.inl ⟨w', ?_, hS⟩⟩) ?_
                rotate_left
                ·have zl := (HLB.out.below hS HLB.out.lt).lt
                 go_simp
                 all_goals with_reducible rfl
                simp only [Act.put, List.setIfInBounds_toArray, List.set_cons_zero, List.set_cons_succ]
                refine det_take (v := ?_) (i := 1) (fuel := 44) (by simp; rfl) (by kernel_rfl) (by kernel_rfl) (by kernel_rfl) (Or.inl ⟨by rfl, fun w' hS => Or.inl ⟨w', ?_, hS⟩⟩) ?_
                rotate_left
                ·have zl := (HLB.out.below hS HLB.out.lt).lt
                 have z0 : w'.cell? ⟨gq, 0, none⟩ = some (.int .i64 tag) := ((HLB.out.below hS HLB.out.lt).cell 0).trans rfl
                 go_simp
                 all_goals with_reducible rfl
                simp only [Act.put, List.setIfInBounds_toArray, List.set_cons_zero, List.set_cons_succ]
                refine det_take (v := ?_) (i := 2) (fuel := 43) (by simp; rfl) (by kernel_rfl) (by kernel_rfl) (by kernel_rfl) (Or.inl ⟨by rfl, fun w' hS => Or.inl ⟨w', ?_, hS⟩⟩) ?_
                rotate_left
                ·go_simp
                 all_goals with_reducible rfl
                simp only [Act.put, List.setIfInBounds_toArray, List.set_cons_zero, List.set_cons_succ]
                refine det_take (v := ?_) (i := 3) (fuel := 42) (by simp; rfl) (by kernel_rfl) (by kernel_rfl) (by kernel_rfl) (Or.inl ⟨by rfl, fun w' hS => Or.inl ⟨w', ?_, hS⟩⟩) ?_
                rotate_left
                ·go_simp
                 all_goals with_reducible rfl
                simp only [Act.put, List.setIfInBounds_toArray, List.set_cons_zero, List.set_cons_succ]
                refine det_take (v := ?_) (i := 4) (fuel := 41) (by simp; rfl) (by kernel_rfl) (by kernel_rfl) (by kernel_rfl) (Or.inl ⟨by rfl, fun w' hS => Or.inl ⟨w', ?_, hS⟩⟩) ?_
                rotate_left
                ·have zl := (HLB.out.below hS HLB.out.lt).lt
                 go_simp
                 all_goals with_reducible rfl
                simp only [Act.put, List.setIfInBounds_toArray, List.set_cons_zero, List.set_cons_succ]
                refine det_take (v := ?_) (i := 5) (fuel := 40) (by simp; rfl) (by kernel_rfl) (by kernel_rfl) (by kernel_rfl) (Or.inl ⟨by rfl, fun w' hS => Or.inl ⟨w', ?_, hS⟩⟩) ?_
                rotate_left
                ·have zl := (HLB.out.below hS HLB.out.lt).lt
                 have z0 : w'.cell? ⟨gq, 0, none⟩ = some (.int .i64 tag) := ((HLB.out.below hS HLB.out.lt).cell 0).trans rfl
                 go_simp
                 all_goals with_reducible rfl
                simp only [Act.put, List.setIfInBounds_toArray, List.set_cons_zero, List.set_cons_succ]
                refine det_take (v := ?_) (i := 6) (fuel := 39) (by simp; rfl) (by kernel_rfl) (by kernel_rfl) (by kernel_rfl) (Or.inl ⟨by rfl, fun w' hS => Or.inl ⟨w', ?_, hS⟩⟩) ?_
                rotate_left
                ·go_simp
                 all_goals with_reducible rfl
                simp only [Act.put, List.setIfInBounds_toArray, List.set_cons_zero, List.set_cons_succ]
                refine det_take (v := ?_) (i := 7) (fuel := 38) (by simp; rfl) (by kernel_rfl) (by kernel_rfl) (by kernel_rfl) (Or.inl ⟨by rfl, fun w' hS => Or.inl ⟨w', ?_, hS⟩⟩) ?_
                rotate_left
                ·go_simp
                 all_goals with_reducible rfl
                simp only [Act.put, List.setIfInBounds_toArray, List.set_cons_zero, List.set_cons_succ]
                refine det_take (v := ?_) (i := 8) (fuel := 37) (by simp; rfl) (by kernel_rfl) (by kernel_rfl) (by kernel_rfl) (Or.inl ⟨by rfl, fun w' hS => Or.inl ⟨w', ?_, hS⟩⟩) ?_
                rotate_left
                ·go_simp
                 all_goals with_reducible rfl
                simp only [Act.put, List.setIfInBounds_toArray, List.set_cons_zero, List.set_cons_succ]
                refine det_take (v := ?_) (i := 9) (fuel := 36) (by simp; rfl) (by kernel_rfl) (by kernel_rfl) (by kernel_rfl) (Or.inl ⟨by rfl, fun w' hS => Or.inl ⟨w', ?_, hS⟩⟩) ?_
                rotate_left
                ·have zl := (HLB.out.below hS HLB.out.lt).lt
                 go_simp
                 all_goals with_reducible rfl
                simp only [Act.put, List.setIfInBounds_toArray, List.set_cons_zero, List.set_cons_succ]
                refine det_take (v := ?_) (i := 10) (fuel := 35) (by simp; rfl) (by kernel_rfl) (by kernel_rfl) (by kernel_rfl) (Or.inl ⟨by rfl, fun w' hS => Or.inl ⟨w', ?_, hS⟩⟩) ?_
                rotate_left
                ·have zl := (HLB.out.below hS HLB.out.lt).lt
                 have z2 : w'.cell? ⟨gq, 2, none⟩ = some (.int .i64 verb) := ((HLB.out.below hS HLB.out.lt).cell 2).trans rfl
                 go_simp
                 all_goals with_reducible rfl
                simp only [Act.put, List.setIfInBounds_toArray, List.set_cons_zero, List.set_cons_succ]
                refine det_take (v := ?_) (i := 11) (fuel := 34) (by simp; rfl) (by kernel_rfl) (by kernel_rfl) (by kernel_rfl) (Or.inl ⟨by rfl, fun w' hS => Or.inl ⟨w', ?_, hS⟩⟩) ?_
                rotate_left
                ·go_simp
                 all_goals with_reducible rfl
                simp only [Act.put, List.setIfInBounds_toArray, List.set_cons_zero, List.set_cons_succ]
                refine det_take (v := ?_) (i := 12) (fuel := 33) (by simp; rfl) (by kernel_rfl) (by kernel_rfl) (by kernel_rfl) (Or.inl ⟨by rfl, fun w' hS => Or.inl ⟨w', ?_, hS⟩⟩) ?_
                rotate_left
                ·go_simp
                 all_goals with_reducible rfl
                simp only [Act.put, List.setIfInBounds_toArray, List.set_cons_zero, List.set_cons_succ]
                refine det_take (v := ?_) (i := 13) (fuel := 32) (by simp; rfl) (by kernel_rfl) (by kernel_rfl) (by kernel_rfl) (Or.inl ⟨by rfl, fun w' hS => Or.inl ⟨w', ?_, hS⟩⟩) ?_
                rotate_left
                ·go_simp
                 all_goals with_reducible rfl
                simp only [Act.put, List.setIfInBounds_toArray, List.set_cons_zero, List.set_cons_succ]
                refine det_take (v := ?_) (i := 14) (fuel := 31) (by simp; rfl) (by kernel_rfl) (by kernel_rfl) (by kernel_rfl) (Or.inl ⟨by rfl, fun w' hS => Or.inl ⟨w', ?_, hS⟩⟩) ?_
                rotate_left
                ·go_simp
                 all_goals with_reducible rfl
                simp only [Act.put, List.setIfInBounds_toArray, List.set_cons_zero, List.set_cons_succ]
                refine det_take (v := ?_) (i := 15) (fuel := 30) (by simp; rfl) (by kernel_rfl) (by kernel_rfl) (by kernel_rfl) (Or.inl ⟨by rfl, fun w' hS => Or.inl ⟨w', ?_, hS⟩⟩) ?_
                rotate_left
                ·obtain ⟨lp, x0, x1, x2, x3, x4⟩ := PolBl.cells (Blk.below HPw.out hS (Blk.lt HPw.out))
                 go_simp
                 all_goals with_reducible rfl
                simp only [Act.put, List.setIfInBounds_toArray, List.set_cons_zero, List.set_cons_succ]
                refine det_take (v := ?_) (i := 16) (fuel := 29) (by simp; rfl) (by kernel_rfl) (by kernel_rfl) (by kernel_rfl) (Or.inl ⟨by rfl, fun w' hS => Or.inl ⟨w', ?_, hS⟩⟩) ?_
                rotate_left
                ·obtain ⟨lp, x0, x1, x2, x3, x4⟩ := PolBl.cells (Blk.below HPw.out hS (Blk.lt HPw.out))
                 go_simp
                 all_goals with_reducible rfl
                simp only [Act.put, List.setIfInBounds_toArray, List.set_cons_zero, List.set_cons_succ]
                refine det_take (v := ?_) (i := 17) (fuel := 28) (by simp; rfl) (by kernel_rfl) (by kernel_rfl) (by kernel_rfl) (Or.inl ⟨by rfl, fun w' hS => Or.inl ⟨w', ?_, hS⟩⟩) ?_
                rotate_left
                ·obtain ⟨lp, x0, x1, x2, x3, x4⟩ := PolBl.cells (Blk.below HPw.out hS (Blk.lt HPw.out))
                 go_simp
                 all_goals with_reducible rfl
                simp only [Act.put, List.setIfInBounds_toArray, List.set_cons_zero, List.set_cons_succ]
                refine det_take (v := ?_) (i := 18) (fuel := 27) (by simp; rfl) (by kernel_rfl) (by kernel_rfl) (by kernel_rfl) (Or.inl ⟨by rfl, fun w' hS => Or.inl ⟨w', ?_, hS⟩⟩) ?_
                rotate_left
                ·obtain ⟨lp, x0, x1, x2, x3, x4⟩ := PolBl.cells (Blk.below HPw.out hS (Blk.lt HPw.out))
                 rw [HA2.out] at x2
                 go_simp
                 all_goals with_reducible rfl
                simp only [Act.put, List.setIfInBounds_toArray, List.set_cons_zero, List.set_cons_succ]
                refine det_take (v := ?_) (i := 19) (fuel := 26) (by simp; rfl) (by kernel_rfl) (by kernel_rfl) (by kernel_rfl) (Or.inl ⟨by rfl, fun w' hS => Or.inl ⟨w', ?_, hS⟩⟩) ?_
                rotate_left
                ·go_simp
                 all_goals with_reducible rfl
                simp only [Act.put, List.setIfInBounds_toArray, List.set_cons_zero, List.set_cons_succ]
                refine det_take (v := ?_) (i := 20) (fuel := 25) (by simp; rfl) (by kernel_rfl) (by kernel_rfl) (by kernel_rfl) (Or.inl ⟨by rfl, fun w' hS => Or.inl ⟨w', ?_, hS⟩⟩) ?_
                rotate_left
                ·go_simp
                 all_goals with_reducible rfl
                simp only [Act.put, List.setIfInBounds_toArray, List.set_cons_zero, List.set_cons_succ]
                refine det_take (v := ?_) (i := 21) (fuel := 24) (by simp; rfl) (by kernel_rfl) (by kernel_rfl) (by kernel_rfl) (Or.inl ⟨by rfl, fun w' hS => Or.inl ⟨w', ?_, hS⟩⟩) ?_
                rotate_left
                ·go_simp
                 all_goals with_reducible rfl
                simp only [Act.put, List.setIfInBounds_toArray, List.set_cons_zero, List.set_cons_succ]
                refine det_take (v := ?_) (i := 22) (fuel := 23) (by simp; rfl) (by kernel_rfl) (by kernel_rfl) (by kernel_rfl) (Or.inl ⟨by rfl, fun w' hS => Or.inl ⟨w', ?_, hS⟩⟩) ?_
                rotate_left
                ·have y1 : w'.cell? ⟨g2, o2 + i * 3 + 2, none⟩ = some (.int .u64 (ro : Int)) := (hS.cell (p := ⟨g2, o2 + i * 3 + 2, none⟩) hgW).trans HD.out
                 go_simp
                 all_goals with_reducible rfl
                simp only [Act.put, List.setIfInBounds_toArray, List.set_cons_zero, List.set_cons_succ]
                refine det_take (v := ?_) (i := 23) (fuel := 22) (by simp; rfl) (by kernel_rfl) (by kernel_rfl) (by kernel_rfl) (Or.inl ⟨by rfl, fun w' hS => Or.inl ⟨w', ?_, hS⟩⟩) ?_
                rotate_left
                ·have zl := (HLB.out.below hS HLB.out.lt).lt
                 go_simp
                 all_goals with_reducible rfl
                simp only [Act.put, List.setIfInBounds_toArray, List.set_cons_zero, List.set_cons_succ]
                refine det_take (v := ?_) (i := 24) (fuel := 21) (by simp; rfl) (by kernel_rfl) (by kernel_rfl) (by kernel_rfl) (Or.inl ⟨by rfl, fun w' hS => Or.inl ⟨w', ?_, hS⟩⟩) ?_
                rotate_left
                ·have zl := (HLB.out.below hS HLB.out.lt).lt
                 have z1 : w'.cell? ⟨gq, 1, none⟩ = some (.int .i64 role) := ((HLB.out.below hS HLB.out.lt).cell 1).trans rfl
                 go_simp
                 all_goals with_reducible rfl
                simp only [Act.put, List.setIfInBounds_toArray, List.set_cons_zero, List.set_cons_succ]
                refine det_take (v := ?_) (i := 25) (fuel := 20) (by simp; rfl) (by kernel_rfl) (by kernel_rfl) (by kernel_rfl) (Or.inl ⟨by rfl, fun w' hS => Or.inr ⟨33, #[.slice s.Au nu s.cu, .int .u64 (ro : Int), .int .i64 role], w', ?_, ?_⟩⟩) ?_
                rotate_left
                ·go_simp
                 all_goals with_reducible rfl
                ·exact (HHX.out w' hS).mono fun e w2 h => ⟨by rw [h.1], h.2 ▸ hS⟩
                simp only [Act.put, List.setIfInBounds_toArray, List.set_cons_zero, List.set_cons_succ]
                refine det_take (v := ?_) (i := 26) (fuel := 19) (by simp; rfl) (by kernel_rfl) (by kernel_rfl) (by kernel_rfl) (Or.inl ⟨by rfl, fun w' hS => Or.inl ⟨w', ?_, hS⟩⟩) ?_
                rotate_left
                ·go_simp
                 all_goals with_reducible rfl
                simp only [Act.put, List.setIfInBounds_toArray, List.set_cons_zero, List.set_cons_succ]
                refine det_take (v := ?_) (i := 27) (fuel := 18) (by simp; rfl) (by kernel_rfl) (by kernel_rfl) (by kernel_rfl) (Or.inl ⟨by rfl, fun w' hS => Or.inl ⟨w', ?_, hS⟩⟩) ?_
                rotate_left
                ·go_simp
                 all_goals with_reducible rfl
                simp only [Act.put, List.setIfInBounds_toArray, List.set_cons_zero, List.set_cons_succ]
                refine det_take (v := ?_) (i := 28) (fuel := 17) (by simp; rfl) (by kernel_rfl) (by kernel_rfl) (by kernel_rfl) (Or.inl ⟨by rfl, fun w' hS => Or.inl ⟨w', ?_, hS⟩⟩) ?_
                rotate_left
                ·go_simp
                 all_goals with_reducible rfl
                simp only [Act.put, List.setIfInBounds_toArray, List.set_cons_zero, List.set_cons_succ]
                refine det_take (v := ?_) (i := 29) (fuel := 16) (by simp; rfl) (by kernel_rfl) (by kernel_rfl) (by kernel_rfl) (Or.inl ⟨by rfl, fun w' hS => Or.inl ⟨w', ?_, hS⟩⟩) ?_
                rotate_left
                ·go_simp
                 all_goals with_reducible rfl
                simp only [Act.put, List.setIfInBounds_toArray, List.set_cons_zero, List.set_cons_succ]
                refine det_take (v := ?_) (i := 30) (fuel := 15) (by simp; rfl) (by kernel_rfl) (by kernel_rfl) (by kernel_rfl) (Or.inl ⟨by rfl, fun w' hS => Or.inl ⟨w', ?_, hS⟩⟩) ?_
                rotate_left
                ·go_simp
                 all_goals with_reducible rfl
                simp only [Act.put, List.setIfInBounds_toArray, List.set_cons_zero, List.set_cons_succ]
                refine det_take (v := ?_) (i := 31) (fuel := 14) (by simp; rfl) (by kernel_rfl) (by kernel_rfl) (by kernel_rfl) (Or.inl ⟨by rfl, fun w' hS => Or.inl ⟨w', ?_, hS⟩⟩) ?_
                rotate_left
                ·have zl := (HLB.out.below hS HLB.out.lt).lt
                 go_simp
                 all_goals with_reducible rfl
                simp only [Act.put, List.setIfInBounds_toArray, List.set_cons_zero, List.set_cons_succ]
                refine det_take (v := ?_) (i := 32) (fuel := 13) (by simp; rfl) (by kernel_rfl) (by kernel_rfl) (by kernel_rfl) (Or.inl ⟨by rfl, fun w' hS => Or.inl ⟨w', ?_, hS⟩⟩) ?_
                rotate_left
                ·have zl := (HLB.out.below hS HLB.out.lt).lt
                 have z3 : w'.cell? ⟨gq, 3, none⟩ = some (.int .i64 ent) := ((HLB.out.below hS HLB.out.lt).cell 3).trans rfl
                 go_simp
                 all_goals with_reducible rfl
                simp only [Act.put, List.setIfInBounds_toArray, List.set_cons_zero, List.set_cons_succ]
                refine det_take (v := ?_) (i := 33) (fuel := 12) (by simp; rfl) (by kernel_rfl) (by kernel_rfl) (by kernel_rfl) (Or.inl ⟨by rfl, fun w' hS => Or.inl ⟨w', ?_, hS⟩⟩) ?_
                rotate_left
                ·go_simp
                 all_goals with_reducible rfl
                simp only [Act.put, List.setIfInBounds_toArray, List.set_cons_zero, List.set_cons_succ]
                refine det_take (v := ?_) (i := 34) (fuel := 11) (by simp; rfl) (by kernel_rfl) (by kernel_rfl) (by kernel_rfl) (Or.inl ⟨by rfl, fun w' hS => Or.inl ⟨w', ?_, hS⟩⟩) ?_
                rotate_left
                ·go_simp
                 all_goals with_reducible rfl
                simp only [Act.put, List.setIfInBounds_toArray, List.set_cons_zero, List.set_cons_succ]
                refine det_take (v := ?_) (i := 35) (fuel := 10) (by simp; rfl) (by kernel_rfl) (by kernel_rfl) (by kernel_rfl) (Or.inl ⟨by rfl, fun w' hS => Or.inl ⟨w', ?_, hS⟩⟩) ?_
                rotate_left
                ·go_simp
                 all_goals with_reducible rfl
                simp only [Act.put, List.setIfInBounds_toArray, List.set_cons_zero, List.set_cons_succ]
                refine det_take (v := ?_) (i := 36) (fuel := 9) (by simp; rfl) (by kernel_rfl) (by kernel_rfl) (by kernel_rfl) (Or.inl ⟨by rfl, fun w' hS => Or.inl ⟨w', ?_, hS⟩⟩) ?_
                rotate_left
                ·go_simp
                 all_goals with_reducible rfl
                simp only [Act.put, List.setIfInBounds_toArray, List.set_cons_zero, List.set_cons_succ]
                refine det_take (v := ?_) (i := 37) (fuel := 8) (by simp; rfl) (by kernel_rfl) (by kernel_rfl) (by kernel_rfl) (Or.inl ⟨by rfl, fun w' hS => Or.inl ⟨w', ?_, hS⟩⟩) ?_
                rotate_left
                ·go_simp
                 all_goals with_reducible rfl
                simp only [Act.put, List.setIfInBounds_toArray, List.set_cons_zero, List.set_cons_succ]
                refine det_take (v := ?_) (i := 38) (fuel := 7) (by simp; rfl) (by kernel_rfl) (by kernel_rfl) (by kernel_rfl) (Or.inl ⟨by rfl, fun w' hS => Or.inl ⟨w', ?_, hS⟩⟩) ?_
                rotate_left
                ·go_simp
                 all_goals with_reducible rfl
                simp only [Act.put, List.setIfInBounds_toArray, List.set_cons_zero, List.set_cons_succ]
                refine det_take (v := ?_) (i := 39) (fuel := 6) (by simp; rfl) (by kernel_rfl) (by kernel_rfl) (by kernel_rfl) (Or.inl ⟨by rfl, fun w' hS => Or.inl ⟨w', ?_, hS⟩⟩) ?_
                rotate_left
                ·go_simp
                 all_goals with_reducible rfl
                simp only [Act.put, List.setIfInBounds_toArray, List.set_cons_zero, List.set_cons_succ]
                refine det_take (v := undef) (i := 40) (fuel := 5) (by simp; rfl) (by kernel_rfl) (by kernel_rfl) (by kernel_rfl) (Or.inr ⟨by rfl, by rfl⟩) ?_
                simp only [Act.put, List.setIfInBounds_toArray, List.set_cons_zero, List.set_cons_succ]
                refine det_take (v := undef) (i := 41) (fuel := 4) (by simp; rfl) (by kernel_rfl) (by kernel_rfl) (by kernel_rfl) (Or.inr ⟨by rfl, by rfl⟩) ?_
                simp only [Act.put, List.setIfInBounds_toArray, List.set_cons_zero, List.set_cons_succ]
                refine det_take (v := undef) (i := 42) (fuel := 3) (by simp; rfl) (by kernel_rfl) (by kernel_rfl) (by kernel_rfl) (Or.inr ⟨by rfl, by rfl⟩) ?_
                simp only [Act.put, List.setIfInBounds_toArray, List.set_cons_zero, List.set_cons_succ]
                refine det_take (v := ?_) (i := 43) (fuel := 2) (by simp; rfl) (by kernel_rfl) (by kernel_rfl) (by kernel_rfl) (Or.inl ⟨by rfl, fun w' hS => Or.inl ⟨w', ?_, hS⟩⟩) ?_
                rotate_left
                ·go_simp
                 all_goals with_reducible rfl
                simp only [Act.put, List.setIfInBounds_toArray, List.set_cons_zero, List.set_cons_succ]
                refine det_take (v := ?_) (i := 44) (fuel := 1) (by simp; rfl) (by kernel_rfl) (by kernel_rfl) (by kernel_rfl) (Or.inl ⟨by rfl, fun w' hS => Or.inl ⟨w', ?_, hS⟩⟩) ?_
                rotate_left
                ·go_simp
                 all_goals with_reducible rfl
                simp only [Act.put, List.setIfInBounds_toArray, List.set_cons_zero, List.set_cons_succ]
                refine det_take (v := ?_) (i := 45) (fuel := 0) (by simp; rfl) (by kernel_rfl) (by kernel_rfl) (by kernel_rfl) (Or.inl ⟨by rfl, fun w' hS => Or.inl ⟨w', ?_, hS⟩⟩) ?_
                rotate_left
                ·go_simp
                 all_goals with_reducible rfl
                simp only [Act.put, List.setIfInBounds_toArray, List.set_cons_zero, List.set_cons_succ]
                refine det_done (by kernel_rfl) (fun V hV => ?_) _
                have HV9 := Lib.hid (HSw.out.trans (hV.mono HSw.out.size))
                have hN : tagM (spk P ro vb e) (P.rules.take (j + 1)) = t1 := by rw [tagM_no HGR.out HSZ.out, HT1.out]
                have HR9 := Lib.hid (And.intro (show decide (tagM (spk P ro vb e) (P.rules.take (j + 1)) ≠ 0) = b1 by rw [hN]; exact HD1.out) (show decide (tagM (spk P ro vb e) (P.rules.take (j + 1)) = 2) = b2 by rw [hN]; exact HD2.out))
                clear hN
                go_wp2
                go_roundw
                case rel => exact ⟨j + 1, HJ.out, by go_num, by rw [HR9.out.1], by rw [HR9.out.2], HV9.out⟩
                case measure => simp [intOf]; omega
              ·have hp0 : ((p : Int) == 0) = false := by simp; omega
               have hp1 : ((p : Int) == 1) = true := by simp; omega
               have hee : e = -1 := by have := HE.out; omega
               by_cases j3 : ent = -1
               ·have hb6 : (ent == -1) = true := by simp; omega
                have HSZ := Lib.hid (show spk P ro vb e ⟨tag, role, verb, ent, grp, line, neg, c0, c1, sc, toS, toL⟩ = true by rw [HSY.out]; rw [decide_eq_true (show tag = 1 ∨ tag = 2 from by have := HTG.out; omega), decide_eq_true J1.out, hee, decide_eq_true j3]; rfl)
                clear j3 hee
                refine wp_region_det (S := fun V => Below W2.heap.size W2 V) (by kernel_rfl) (Below.refl W2.heap.size W2).drew ?_
                refine det_take (v := ?_) (i := 0) (fuel := 45) (by simp; rfl) (by kernel_rfl) (by kernel_rfl) (by kernel_rfl) (Or.inl ⟨by rfl, fun w' hS => Or.inl ⟨w', ?_, hS⟩⟩) ?_
                rotate_left
                ·have zl := (HLB.out.below hS HLB.out.lt).lt
                 go_simp
                 all_goals with_reducible rfl
                simp only [Act.put, List.setIfInBounds_toArray, List.set_cons_zero, List.set_cons_succ]
                refine det_take (v := ?_) (i := 1) (fuel := 44) (by simp; rfl) (by kernel_rfl) (by kernel_rfl) (by kernel_rfl) (Or.inl ⟨by rfl, fun w' hS => Or.inl ⟨w', ?_, hS⟩⟩) ?_
                rotate_left
                ·have zl := (HLB.out.below hS HLB.out.lt).lt
                 have z0 : w'.cell? ⟨gq, 0, none⟩ = some (.int .i64 tag) := ((HLB.out.below hS HLB.out.lt).cell 0).trans rfl
                 go_simp
                 all_goals with_reducible rfl
                simp only [Act.put, List.setIfInBounds_toArray, List.set_cons_zero, List.set_cons_succ]
                refine det_take (v := ?_) (i := 2) (fuel := 43) (by simp; rfl) (by kernel_rfl) (by kernel_rfl) (by kernel_rfl) (Or.inl ⟨by rfl, fun w' hS => Or.inl ⟨w', ?_, hS⟩⟩) ?_
                rotate_left
                ·go_simp
                 all_goals with_reducible rfl
                simp only [Act.put, List.setIfInBounds_toArray, List.set_cons_zero, List.set_cons_succ]
                refine det_take (v := ?_) (i := 3) (fuel := 42) (by simp; rfl) (by kernel_rfl) (by kernel_rfl) (by kernel_rfl) (Or.inl ⟨by rfl, fun w' hS => Or.inl ⟨w', ?_, hS⟩⟩) ?_
                rotate_left
                ·go_simp
                 all_goals with_reducible rfl
                simp only [Act.put, List.setIfInBounds_toArray, List.set_cons_zero, List.set_cons_succ]
                refine det_take (v := ?_) (i := 4) (fuel := 41) (by simp; rfl) (by kernel_rfl) (by kernel_rfl) (by kernel_rfl) (Or.inl ⟨by rfl, fun w' hS => Or.inl ⟨w', ?_, hS⟩⟩) ?_
                rotate_left
                ·have zl := (HLB.out.below hS HLB.out.lt).lt
                 go_simp
                 all_goals with_reducible rfl
                simp only [Act.put, List.setIfInBounds_toArray, List.set_cons_zero, List.set_cons_succ]
                refine det_take (v := ?_) (i := 5) (fuel := 40) (by simp; rfl) (by kernel_rfl) (by kernel_rfl) (by kernel_rfl) (Or.inl ⟨by rfl, fun w' hS => Or.inl ⟨w', ?_, hS⟩⟩) ?_
                rotate_left
                ·have zl := (HLB.out.below hS HLB.out.lt).lt
                 have z0 : w'.cell? ⟨gq, 0, none⟩ = some (.int .i64 tag) := ((HLB.out.below hS HLB.out.lt).cell 0).trans rfl
                 go_simp
                 all_goals with_reducible rfl
                simp only [Act.put, List.setIfInBounds_toArray, List.set_cons_zero, List.set_cons_succ]
                refine det_take (v := ?_) (i := 6) (fuel := 39) (by simp; rfl) (by kernel_rfl) (by kernel_rfl) (by kernel_rfl) (Or.inl ⟨by rfl, fun w' hS => Or.inl ⟨w', ?_, hS⟩⟩) ?_
                rotate_left
                ·go_simp
                 all_goals with_reducible rfl
                simp only [Act.put, List.setIfInBounds_toArray, List.set_cons_zero, List.set_cons_succ]
                refine det_take (v := ?_) (i := 7) (fuel := 38) (by simp; rfl) (by kernel_rfl) (by kernel_rfl) (by kernel_rfl) (Or.inl ⟨by rfl, fun w' hS => Or.inl ⟨w', ?_, hS⟩⟩) ?_
                rotate_left
                ·go_simp
                 all_goals with_reducible rfl
                simp only [Act.put, List.setIfInBounds_toArray, List.set_cons_zero, List.set_cons_succ]
                refine det_take (v := ?_) (i := 8) (fuel := 37) (by simp; rfl) (by kernel_rfl) (by kernel_rfl) (by kernel_rfl) (Or.inl ⟨by rfl, fun w' hS => Or.inl ⟨w', ?_, hS⟩⟩) ?_
                rotate_left
                ·go_simp
                 all_goals with_reducible rfl
                simp only [Act.put, List.setIfInBounds_toArray, List.set_cons_zero, List.set_cons_succ]
                refine det_take (v := ?_) (i := 9) (fuel := 36) (by simp; rfl) (by kernel_rfl) (by kernel_rfl) (by kernel_rfl) (Or.inl ⟨by rfl, fun w' hS => Or.inl ⟨w', ?_, hS⟩⟩) ?_
                rotate_left
                ·have zl := (HLB.out.below hS HLB.out.lt).lt
                 go_simp
                 all_goals with_reducible rfl
                simp only [Act.put, List.setIfInBounds_toArray, List.set_cons_zero, List.set_cons_succ]
                refine det_take (v := ?_) (i := 10) (fuel := 35) (by simp; rfl) (by kernel_rfl) (by kernel_rfl) (by kernel_rfl) (Or.inl ⟨by rfl, fun w' hS => Or.inl ⟨w', ?_, hS⟩⟩) ?_
                rotate_left
                ·have zl := (HLB.out.below hS HLB.out.lt).lt
                 have z2 : w'.cell? ⟨gq, 2, none⟩ = some (.int .i64 verb) := ((HLB.out.below hS HLB.out.lt).cell 2).trans rfl
                 go_simp
                 all_goals with_reducible rfl
                simp only [Act.put, List.setIfInBounds_toArray, List.set_cons_zero, List.set_cons_succ]
                refine det_take (v := ?_) (i := 11) (fuel := 34) (by simp; rfl) (by kernel_rfl) (by kernel_rfl) (by kernel_rfl) (Or.inl ⟨by rfl, fun w' hS => Or.inl ⟨w', ?_, hS⟩⟩) ?_
                rotate_left
                ·go_simp
                 all_goals with_reducible rfl
                simp only [Act.put, List.setIfInBounds_toArray, List.set_cons_zero, List.set_cons_succ]
                refine det_take (v := ?_) (i := 12) (fuel := 33) (by simp; rfl) (by kernel_rfl) (by kernel_rfl) (by kernel_rfl) (Or.inl ⟨by rfl, fun w' hS => Or.inl ⟨w', ?_, hS⟩⟩) ?_
                rotate_left
                ·go_simp
                 all_goals with_reducible rfl
                simp only [Act.put, List.setIfInBounds_toArray, List.set_cons_zero, List.set_cons_succ]
                refine det_take (v := ?_) (i := 13) (fuel := 32) (by simp; rfl) (by kernel_rfl) (by kernel_rfl) (by kernel_rfl) (Or.inl ⟨by rfl, fun w' hS => Or.inl ⟨w', ?_, hS⟩⟩) ?_
                rotate_left
                ·go_simp
                 all_goals with_reducible rfl
                simp only [Act.put, List.setIfInBounds_toArray, List.set_cons_zero, List.set_cons_succ]
                refine det_take (v := ?_) (i := 14) (fuel := 31) (by simp; rfl) (by kernel_rfl) (by kernel_rfl) (by kernel_rfl) (Or.inl ⟨by rfl, fun w' hS => Or.inl ⟨w', ?_, hS⟩⟩) ?_
                rotate_left
                ·go_simp
                 all_goals with_reducible rfl
                simp only [Act.put, List.setIfInBounds_toArray, List.set_cons_zero, List.set_cons_succ]
                refine det_take (v := ?_) (i := 15) (fuel := 30) (by simp; rfl) (by kernel_rfl) (by kernel_rfl) (by kernel_rfl) (Or.inl ⟨by rfl, fun w' hS => Or.inl ⟨w', ?_, hS⟩⟩) ?_
                rotate_left
                ·obtain ⟨lp, x0, x1, x2, x3, x4⟩ := PolBl.cells (Blk.below HPw.out hS (Blk.lt HPw.out))
                 go_simp
                 all_goals with_reducible rfl
                simp only [Act.put, List.setIfInBounds_toArray, List.set_cons_zero, List.set_cons_succ]
                refine det_take (v := ?_) (i := 16) (fuel := 29) (by simp; rfl) (by kernel_rfl) (by kernel_rfl) (by kernel_rfl) (Or.inl ⟨by rfl, fun w' hS => Or.inl ⟨w', ?_, hS⟩⟩) ?_
                rotate_left
                ·obtain ⟨lp, x0, x1, x2, x3, x4⟩ := PolBl.cells (Blk.below HPw.out hS (Blk.lt HPw.out))
                 go_simp
                 all_goals with_reducible rfl
                simp only [Act.put, List.setIfInBounds_toArray, List.set_cons_zero, List.set_cons_succ]
                refine det_take (v := ?_) (i := 17) (fuel := 28) (by simp; rfl) (by kernel_rfl) (by kernel_rfl) (by kernel_rfl) (Or.inl ⟨by rfl, fun w' hS => Or.inl ⟨w', ?_, hS⟩⟩) ?_
                rotate_left
                ·obtain ⟨lp, x0, x1, x2, x3, x4⟩ := PolBl.cells (Blk.below HPw.out hS (Blk.lt HPw.out))
                 go_simp
                 all_goals with_reducible rfl
                simp only [Act.put, List.setIfInBounds_toArray, List.set_cons_zero, List.set_cons_succ]
                refine det_take (v := ?_) (i := 18) (fuel := 27) (by simp; rfl) (by kernel_rfl) (by kernel_rfl) (by kernel_rfl) (Or.inl ⟨by rfl, fun w' hS => Or.inl ⟨w', ?_, hS⟩⟩) ?_
                rotate_left
                ·obtain ⟨lp, x0, x1, x2, x3, x4⟩ := PolBl.cells (Blk.below HPw.out hS (Blk.lt HPw.out))
                 rw [HA2.out] at x2
                 go_simp
                 all_goals with_reducible rfl
                simp only [Act.put, List.setIfInBounds_toArray, List.set_cons_zero, List.set_cons_succ]
                refine det_take (v := ?_) (i := 19) (fuel := 26) (by simp; rfl) (by kernel_rfl) (by kernel_rfl) (by kernel_rfl) (Or.inl ⟨by rfl, fun w' hS => Or.inl ⟨w', ?_, hS⟩⟩) ?_
                rotate_left
                ·go_simp
                 all_goals with_reducible rfl
                simp only [Act.put, List.setIfInBounds_toArray, List.set_cons_zero, List.set_cons_succ]
                refine det_take (v := ?_) (i := 20) (fuel := 25) (by simp; rfl) (by kernel_rfl) (by kernel_rfl) (by kernel_rfl) (Or.inl ⟨by rfl, fun w' hS => Or.inl ⟨w', ?_, hS⟩⟩) ?_
                rotate_left
                ·go_simp
                 all_goals with_reducible rfl
                simp only [Act.put, List.setIfInBounds_toArray, List.set_cons_zero, List.set_cons_succ]
                refine det_take (v := ?_) (i := 21) (fuel := 24) (by simp; rfl) (by kernel_rfl) (by kernel_rfl) (by kernel_rfl) (Or.inl ⟨by rfl, fun w' hS => Or.inl ⟨w', ?_, hS⟩⟩) ?_
                rotate_left
                ·go_simp
                 all_goals with_reducible rfl
                simp only [Act.put, List.setIfInBounds_toArray, List.set_cons_zero, List.set_cons_succ]
                refine det_take (v := ?_) (i := 22) (fuel := 23) (by simp; rfl) (by kernel_rfl) (by kernel_rfl) (by kernel_rfl) (Or.inl ⟨by rfl, fun w' hS => Or.inl ⟨w', ?_, hS⟩⟩) ?_
                rotate_left
                ·have y1 : w'.cell? ⟨g2, o2 + i * 3 + 2, none⟩ = some (.int .u64 (ro : Int)) := (hS.cell (p := ⟨g2, o2 + i * 3 + 2, none⟩) hgW).trans HD.out
                 go_simp
                 all_goals with_reducible rfl
                simp only [Act.put, List.setIfInBounds_toArray, List.set_cons_zero, List.set_cons_succ]
                refine det_take (v := ?_) (i := 23) (fuel := 22) (by simp; rfl) (by kernel_rfl) (by kernel_rfl) (by kernel_rfl) (Or.inl ⟨by rfl, fun w' hS => Or.inl ⟨w', ?_, hS⟩⟩) ?_
                rotate_left
                ·have zl := (HLB.out.below hS HLB.out.lt).lt
                 go_simp
                 all_goals with_reducible rfl
                simp only [Act.put, List.setIfInBounds_toArray, List.set_cons_zero, List.set_cons_succ]
                refine det_take (v := ?_) (i := 24) (fuel := 21) (by simp; rfl) (by kernel_rfl) (by kernel_rfl) (by kernel_rfl) (Or.inl ⟨by rfl, fun w' hS => Or.inl ⟨w', ?_, hS⟩⟩) ?_
                rotate_left
                ·have zl := (HLB.out.below hS HLB.out.lt).lt
                 have z1 : w'.cell? ⟨gq, 1, none⟩ = some (.int .i64 role) := ((HLB.out.below hS HLB.out.lt).cell 1).trans rfl
                 go_simp
                 all_goals with_reducible rfl
                simp only [Act.put, List.setIfInBounds_toArray, List.set_cons_zero, List.set_cons_succ]
                refine det_take (v := ?_) (i := 25) (fuel := 20) (by simp; rfl) (by kernel_rfl) (by kernel_rfl) (by kernel_rfl) (Or.inl ⟨by rfl, fun w' hS => Or.inr ⟨33, #[.slice s.Au nu s.cu, .int .u64 (ro : Int), .int .i64 role], w', ?_, ?_⟩⟩) ?_
                rotate_left
                ·go_simp
                 all_goals with_reducible rfl
                ·exact (HHX.out w' hS).mono fun e w2 h => ⟨by rw [h.1], h.2 ▸ hS⟩
                simp only [Act.put, List.setIfInBounds_toArray, List.set_cons_zero, List.set_cons_succ]
                refine det_take (v := ?_) (i := 26) (fuel := 19) (by simp; rfl) (by kernel_rfl) (by kernel_rfl) (by kernel_rfl) (Or.inl ⟨by rfl, fun w' hS => Or.inl ⟨w', ?_, hS⟩⟩) ?_
                rotate_left
                ·go_simp
                 all_goals with_reducible rfl
                simp only [Act.put, List.setIfInBounds_toArray, List.set_cons_zero, List.set_cons_succ]
                refine det_take (v := ?_) (i := 27) (fuel := 18) (by simp; rfl) (by kernel_rfl) (by kernel_rfl) (by kernel_rfl) (Or.inl ⟨by rfl, fun w' hS => Or.inl ⟨w', ?_, hS⟩⟩) ?_
                rotate_left
                ·go_simp
                 all_goals with_reducible rfl
                simp only [Act.put, List.setIfInBounds_toArray, List.set_cons_zero, List.set_cons_succ]
                refine det_take (v := ?_) (i := 28) (fuel := 17) (by simp; rfl) (by kernel_rfl) (by kernel_rfl) (by kernel_rfl) (Or.inl ⟨by rfl, fun w' hS => Or.inl ⟨w', ?_, hS⟩⟩) ?_
                rotate_left
                ·go_simp
                 all_goals with_reducible rfl
                simp only [Act.put, List.setIfInBounds_toArray, List.set_cons_zero, List.set_cons_succ]
                refine det_take (v := ?_) (i := 29) (fuel := 16) (by simp; rfl) (by kernel_rfl) (by kernel_rfl) (by kernel_rfl) (Or.inl ⟨by rfl, fun w' hS => Or.inl ⟨w', ?_, hS⟩⟩) ?_
                rotate_left
                ·go_simp
                 all_goals with_reducible rfl
                simp only [Act.put, List.setIfInBounds_toArray, List.set_cons_zero, List.set_cons_succ]
                refine det_take (v := ?_) (i := 30) (fuel := 15) (by simp; rfl) (by kernel_rfl) (by kernel_rfl) (by kernel_rfl) (Or.inl ⟨by rfl, fun w' hS => Or.inl ⟨w', ?_, hS⟩⟩) ?_
                rotate_left
                ·go_simp
                 all_goals with_reducible rfl
                simp only [Act.put, List.setIfInBounds_toArray, List.set_cons_zero, List.set_cons_succ]
                refine det_take (v := undef) (i := 31) (fuel := 14) (by simp; rfl) (by kernel_rfl) (by kernel_rfl) (by kernel_rfl) (Or.inr ⟨by rfl, by rfl⟩) ?_
                simp only [Act.put, List.setIfInBounds_toArray, List.set_cons_zero, List.set_cons_succ]
                refine det_take (v := undef) (i := 32) (fuel := 13) (by simp; rfl) (by kernel_rfl) (by kernel_rfl) (by kernel_rfl) (Or.inr ⟨by rfl, by rfl⟩) ?_
                simp only [Act.put, List.setIfInBounds_toArray, List.set_cons_zero, List.set_cons_succ]
                refine det_take (v := undef) (i := 33) (fuel := 12) (by simp; rfl) (by kernel_rfl) (by kernel_rfl) (by kernel_rfl) (Or.inr ⟨by rfl, by rfl⟩) ?_
                simp only [Act.put, List.setIfInBounds_toArray, List.set_cons_zero, List.set_cons_succ]
                refine det_take (v := undef) (i := 34) (fuel := 11) (by simp; rfl) (by kernel_rfl) (by kernel_rfl) (by kernel_rfl) (Or.inr ⟨by rfl, by rfl⟩) ?_
                simp only [Act.put, List.setIfInBounds_toArray, List.set_cons_zero, List.set_cons_succ]
                refine det_take (v := ?_) (i := 35) (fuel := 10) (by simp; rfl) (by kernel_rfl) (by kernel_rfl) (by kernel_rfl) (Or.inl ⟨by rfl, fun w' hS => Or.inl ⟨w', ?_, hS⟩⟩) ?_
                rotate_left
                ·go_simp
                 all_goals with_reducible rfl
                simp only [Act.put, List.setIfInBounds_toArray, List.set_cons_zero, List.set_cons_succ]
                refine det_take (v := ?_) (i := 36) (fuel := 9) (by simp; rfl) (by kernel_rfl) (by kernel_rfl) (by kernel_rfl) (Or.inl ⟨by rfl, fun w' hS => Or.inl ⟨w', ?_, hS⟩⟩) ?_
                rotate_left
                ·go_simp
                 all_goals with_reducible rfl
                simp only [Act.put, List.setIfInBounds_toArray, List.set_cons_zero, List.set_cons_succ]
                refine det_take (v := ?_) (i := 37) (fuel := 8) (by simp; rfl) (by kernel_rfl) (by kernel_rfl) (by kernel_rfl) (Or.inl ⟨by rfl, fun w' hS => Or.inl ⟨w', ?_, hS⟩⟩) ?_
                rotate_left
                ·go_simp
                 all_goals with_reducible rfl
                simp only [Act.put, List.setIfInBounds_toArray, List.set_cons_zero, List.set_cons_succ]
                refine det_take (v := ?_) (i := 38) (fuel := 7) (by simp; rfl) (by kernel_rfl) (by kernel_rfl) (by kernel_rfl) (Or.inl ⟨by rfl, fun w' hS => Or.inl ⟨w', ?_, hS⟩⟩) ?_
                rotate_left
                ·go_simp
                 all_goals with_reducible rfl
                simp only [Act.put, List.setIfInBounds_toArray, List.set_cons_zero, List.set_cons_succ]
                refine det_take (v := ?_) (i := 39) (fuel := 6) (by simp; rfl) (by kernel_rfl) (by kernel_rfl) (by kernel_rfl) (Or.inl ⟨by rfl, fun w' hS => Or.inl ⟨w', ?_, hS⟩⟩) ?_
                rotate_left
                ·go_simp
                 all_goals with_reducible rfl
                simp only [Act.put, List.setIfInBounds_toArray, List.set_cons_zero, List.set_cons_succ]
                refine det_take (v := ?_) (i := 40) (fuel := 5) (by simp; rfl) (by kernel_rfl) (by kernel_rfl) (by kernel_rfl) (Or.inl ⟨by rfl, fun w' hS => Or.inl ⟨w', ?_, hS⟩⟩) ?_
                rotate_left
                ·have zl := (HLB.out.below hS HLB.out.lt).lt
                 go_simp
                 all_goals with_reducible rfl
                simp only [Act.put, List.setIfInBounds_toArray, List.set_cons_zero, List.set_cons_succ]
                refine det_take (v := ?_) (i := 41) (fuel := 4) (by simp; rfl) (by kernel_rfl) (by kernel_rfl) (by kernel_rfl) (Or.inl ⟨by rfl, fun w' hS => Or.inl ⟨w', ?_, hS⟩⟩) ?_
                rotate_left
                ·have zl := (HLB.out.below hS HLB.out.lt).lt
                 have z3 : w'.cell? ⟨gq, 3, none⟩ = some (.int .i64 ent) := ((HLB.out.below hS HLB.out.lt).cell 3).trans rfl
                 go_simp
                 all_goals with_reducible rfl
                simp only [Act.put, List.setIfInBounds_toArray, List.set_cons_zero, List.set_cons_succ]
                refine det_take (v := ?_) (i := 42) (fuel := 3) (by simp; rfl) (by kernel_rfl) (by kernel_rfl) (by kernel_rfl) (Or.inl ⟨by rfl, fun w' hS => Or.inl ⟨w', ?_, hS⟩⟩) ?_
                rotate_left
                ·go_simp
                 all_goals with_reducible rfl
                simp only [Act.put, List.setIfInBounds_toArray, List.set_cons_zero, List.set_cons_succ]
                refine det_take (v := ?_) (i := 43) (fuel := 2) (by simp; rfl) (by kernel_rfl) (by kernel_rfl) (by kernel_rfl) (Or.inl ⟨by rfl, fun w' hS => Or.inl ⟨w', ?_, hS⟩⟩) ?_
                rotate_left
                ·go_simp
                 all_goals with_reducible rfl
                simp only [Act.put, List.setIfInBounds_toArray, List.set_cons_zero, List.set_cons_succ]
                refine det_take (v := ?_) (i := 44) (fuel := 1) (by simp; rfl) (by kernel_rfl) (by kernel_rfl) (by kernel_rfl) (Or.inl ⟨by rfl, fun w' hS => Or.inl ⟨w', ?_, hS⟩⟩) ?_
                rotate_left
                ·go_simp
                 all_goals with_reducible rfl
                simp only [Act.put, List.setIfInBounds_toArray, List.set_cons_zero, List.set_cons_succ]
                refine det_take (v := ?_) (i := 45) (fuel := 0) (by simp; rfl) (by kernel_rfl) (by kernel_rfl) (by kernel_rfl) (Or.inl ⟨by rfl, fun w' hS => Or.inl ⟨w', ?_, hS⟩⟩) ?_
                rotate_left
                ·go_simp
                 all_goals with_reducible rfl
                simp only [Act.put, List.setIfInBounds_toArray, List.set_cons_zero, List.set_cons_succ]
                refine det_done (by kernel_rfl) (fun V hV => ?_) _
                have HV9 := Lib.hid (HSw.out.trans (hV.mono HSw.out.size))
                have hN : tagM (spk P ro vb e) (P.rules.take (j + 1)) = max t1 tag := by rw [tagM_yes HGR.out HSZ.out, HT1.out]
                have e1 : decide (tagM (spk P ro vb e) (P.rules.take (j + 1)) ≠ 0) = true := decide_eq_true (by rw [hN]; have := HTG.out; have := HRG.out; omega)
                obtain ⟨b3, hb3⟩ : ∃ b, decide (tagM (spk P ro vb e) (P.rules.take (j + 1)) = 2) = b := ⟨_, rfl⟩
                have hb3' : b3 = (b2 || (tag == 2)) := by
                 rw [← hb3, hN, ← HD2.out, Bool.eq_iff_iff, Bool.or_eq_true, decide_eq_true_eq, decide_eq_true_eq, beq_iff_eq]
                 have := HTG.out
                 have := HRG.out
                 omega
                have HR9 := Lib.hid (And.intro e1 hb3)
                have u0 : V.cell? ⟨gq, 0, none⟩ = some (.int .i64 tag) := ((HLB.out.below hV HLB.out.lt).cell 0).trans rfl
                have ul := (HLB.out.below hV HLB.out.lt).lt
                obtain ⟨b4, hb4⟩ : ∃ b, (tag == 2) = b := ⟨_, rfl⟩
                have HB4 := Lib.hid hb4
                rw [hb4] at hb3'
                clear hN e1 hb3
                cases b2
                ·obtain rfl : b3 = b4 := by simpa using hb3'
                 clear hb3'
                 go_wp2
                 go_roundw
                 case rel => exact ⟨j + 1, HJ.out, by go_num, by rw [HR9.out.1], by rw [HR9.out.2]; first | done | rfl | exact congrArg Value.bool (HQT.out.symm.trans HB4.out), HV9.out⟩
                 case measure => simp [intOf]; omega
                ·obtain rfl : b3 = true := by simpa using hb3'
                 clear hb3'
                 go_wp2
                 go_roundw
                 case rel => exact ⟨j + 1, HJ.out, by go_num, by rw [HR9.out.1], by rw [HR9.out.2], HV9.out⟩
                 case measure => simp [intOf]; omega
               ·have hb6 : (ent == -1) = false := by simp; omega
                have HSZ := Lib.hid (show spk P ro vb e ⟨tag, role, verb, ent, grp, line, neg, c0, c1, sc, toS, toL⟩ = false by rw [HSY.out]; rw [hee, decide_eq_false j3, Bool.and_false, Bool.and_false, Bool.and_false])
                clear j3 hee
                refine wp_region_det (S := fun V => Below W2.heap.size W2 V) (by kernel_rfl) (Below.refl W2.heap.size W2).drew ?_
                refine det_take (v := ?_) (i := 0) (fuel := 45) (by simp; rfl) (by kernel_rfl) (by kernel_rfl) (by kernel_rfl) (Or.inl ⟨by rfl, fun w' hS => Or.inl ⟨w', ?_, hS⟩⟩) ?_
                rotate_left
                ·have zl := (HLB.out.below hS HLB.out.lt).lt
                 go_simp
                 all_goals with_reducible rfl
                simp only [Act.put, List.setIfInBounds_toArray, List.set_cons_zero, List.set_cons_succ]
                refine det_take (v := ?_) (i := 1) (fuel := 44) (by simp; rfl) (by kernel_rfl) (by kernel_rfl) (by kernel_rfl) (Or.inl ⟨by rfl, fun w' hS => Or.inl ⟨w', ?_, hS⟩⟩) ?_
                rotate_left
                ·have zl := (HLB.out.below hS HLB.out.lt).lt
                 have z0 : w'.cell? ⟨gq, 0, none⟩ = some (.int .i64 tag) := ((HLB.out.below hS HLB.out.lt).cell 0).trans rfl
                 go_simp
                 all_goals with_reducible rfl
                simp only [Act.put, List.setIfInBounds_toArray, List.set_cons_zero, List.set_cons_succ]
                refine det_take (v := ?_) (i := 2) (fuel := 43) (by simp; rfl) (by kernel_rfl) (by kernel_rfl) (by kernel_rfl) (Or.inl ⟨by rfl, fun w' hS => Or.inl ⟨w', ?_, hS⟩⟩) ?_
                rotate_left
                ·go_simp
                 all_goals with_reducible rfl
                simp only [Act.put, List.setIfInBounds_toArray, List.set_cons_zero, List.set_cons_succ]
                refine det_take (v := ?_) (i := 3) (fuel := 42) (by simp; rfl) (by kernel_rfl) (by kernel_rfl) (by kernel_rfl) (Or.inl ⟨by rfl, fun w' hS => Or.inl ⟨w', ?_, hS⟩⟩) ?_
                rotate_left
                ·go_simp
                 all_goals with_reducible rfl
                simp only [Act.put, List.setIfInBounds_toArray, List.set_cons_zero, List.set_cons_succ]
                refine det_take (v := ?_) (i := 4) (fuel := 41) (by simp; rfl) (by kernel_rfl) (by kernel_rfl) (by kernel_rfl) (Or.inl ⟨by rfl, fun w' hS => Or.inl ⟨w', ?_, hS⟩⟩) ?_
                rotate_left
                ·have zl := (HLB.out.below hS HLB.out.lt).lt
                 go_simp
                 all_goals with_reducible rfl
                simp only [Act.put, List.setIfInBounds_toArray, List.set_cons_zero, List.set_cons_succ]
                refine det_take (v := ?_) (i := 5) (fuel := 40) (by simp; rfl) (by kernel_rfl) (by kernel_rfl) (by kernel_rfl) (Or.inl ⟨by rfl, fun w' hS => Or.inl ⟨w', ?_, hS⟩⟩) ?_
                rotate_left
                ·have zl := (HLB.out.below hS HLB.out.lt).lt
                 have z0 : w'.cell? ⟨gq, 0, none⟩ = some (.int .i64 tag) := ((HLB.out.below hS HLB.out.lt).cell 0).trans rfl
                 go_simp
                 all_goals with_reducible rfl
                simp only [Act.put, List.setIfInBounds_toArray, List.set_cons_zero, List.set_cons_succ]
                refine det_take (v := ?_) (i := 6) (fuel := 39) (by simp; rfl) (by kernel_rfl) (by kernel_rfl) (by kernel_rfl) (Or.inl ⟨by rfl, fun w' hS => Or.inl ⟨w', ?_, hS⟩⟩) ?_
                rotate_left
                ·go_simp
                 all_goals with_reducible rfl
                simp only [Act.put, List.setIfInBounds_toArray, List.set_cons_zero, List.set_cons_succ]
                refine det_take (v := ?_) (i := 7) (fuel := 38) (by simp; rfl) (by kernel_rfl) (by kernel_rfl) (by kernel_rfl) (Or.inl ⟨by rfl, fun w' hS => Or.inl ⟨w', ?_, hS⟩⟩) ?_
                rotate_left
                ·go_simp
                 all_goals with_reducible rfl
                simp only [Act.put, List.setIfInBounds_toArray, List.set_cons_zero, List.set_cons_succ]
                refine det_take (v := ?_) (i := 8) (fuel := 37) (by simp; rfl) (by kernel_rfl) (by kernel_rfl) (by kernel_rfl) (Or.inl ⟨by rfl, fun w' hS => Or.inl ⟨w', ?_, hS⟩⟩) ?_
                rotate_left
                ·go_simp
                 all_goals with_reducible rfl
                simp only [Act.put, List.setIfInBounds_toArray, List.set_cons_zero, List.set_cons_succ]
                refine det_take (v := ?_) (i := 9) (fuel := 36) (by simp; rfl) (by kernel_rfl) (by kernel_rfl) (by kernel_rfl) (Or.inl ⟨by rfl, fun w' hS => Or.inl ⟨w', ?_, hS⟩⟩) ?_
                rotate_left
                ·have zl := (HLB.out.below hS HLB.out.lt).lt
                 go_simp
                 all_goals with_reducible rfl
                simp only [Act.put, List.setIfInBounds_toArray, List.set_cons_zero, List.set_cons_succ]
                refine det_take (v := ?_) (i := 10) (fuel := 35) (by simp; rfl) (by kernel_rfl) (by kernel_rfl) (by kernel_rfl) (Or.inl ⟨by rfl, fun w' hS => Or.inl ⟨w', ?_, hS⟩⟩) ?_
                rotate_left
                ·have zl := (HLB.out.below hS HLB.out.lt).lt
                 have z2 : w'.cell? ⟨gq, 2, none⟩ = some (.int .i64 verb) := ((HLB.out.below hS HLB.out.lt).cell 2).trans rfl
                 go_simp
                 all_goals with_reducible rfl
                simp only [Act.put, List.setIfInBounds_toArray, List.set_cons_zero, List.set_cons_succ]
                refine det_take (v := ?_) (i := 11) (fuel := 34) (by simp; rfl) (by kernel_rfl) (by kernel_rfl) (by kernel_rfl) (Or.inl ⟨by rfl, fun w' hS => Or.inl ⟨w', ?_, hS⟩⟩) ?_
                rotate_left
                ·go_simp
                 all_goals with_reducible rfl
                simp only [Act.put, List.setIfInBounds_toArray, List.set_cons_zero, List.set_cons_succ]
                refine det_take (v := ?_) (i := 12) (fuel := 33) (by simp; rfl) (by kernel_rfl) (by kernel_rfl) (by kernel_rfl) (Or.inl ⟨by rfl, fun w' hS => Or.inl ⟨w', ?_, hS⟩⟩) ?_
                rotate_left
                ·go_simp
                 all_goals with_reducible rfl
                simp only [Act.put, List.setIfInBounds_toArray, List.set_cons_zero, List.set_cons_succ]
                refine det_take (v := ?_) (i := 13) (fuel := 32) (by simp; rfl) (by kernel_rfl) (by kernel_rfl) (by kernel_rfl) (Or.inl ⟨by rfl, fun w' hS => Or.inl ⟨w', ?_, hS⟩⟩) ?_
                rotate_left
                ·go_simp
                 all_goals with_reducible rfl
                simp only [Act.put, List.setIfInBounds_toArray, List.set_cons_zero, List.set_cons_succ]
                refine det_take (v := ?_) (i := 14) (fuel := 31) (by simp; rfl) (by kernel_rfl) (by kernel_rfl) (by kernel_rfl) (Or.inl ⟨by rfl, fun w' hS => Or.inl ⟨w', ?_, hS⟩⟩) ?_
                rotate_left
                ·go_simp
                 all_goals with_reducible rfl
                simp only [Act.put, List.setIfInBounds_toArray, List.set_cons_zero, List.set_cons_succ]
                refine det_take (v := ?_) (i := 15) (fuel := 30) (by simp; rfl) (by kernel_rfl) (by kernel_rfl) (by kernel_rfl) (Or.inl ⟨by rfl, fun w' hS => Or.inl ⟨w', ?_, hS⟩⟩) ?_
                rotate_left
                ·obtain ⟨lp, x0, x1, x2, x3, x4⟩ := PolBl.cells (Blk.below HPw.out hS (Blk.lt HPw.out))
                 go_simp
                 all_goals with_reducible rfl
                simp only [Act.put, List.setIfInBounds_toArray, List.set_cons_zero, List.set_cons_succ]
                refine det_take (v := ?_) (i := 16) (fuel := 29) (by simp; rfl) (by kernel_rfl) (by kernel_rfl) (by kernel_rfl) (Or.inl ⟨by rfl, fun w' hS => Or.inl ⟨w', ?_, hS⟩⟩) ?_
                rotate_left
                ·obtain ⟨lp, x0, x1, x2, x3, x4⟩ := PolBl.cells (Blk.below HPw.out hS (Blk.lt HPw.out))
                 go_simp
                 all_goals with_reducible rfl
                simp only [Act.put, List.setIfInBounds_toArray, List.set_cons_zero, List.set_cons_succ]
                refine det_take (v := ?_) (i := 17) (fuel := 28) (by simp; rfl) (by kernel_rfl) (by kernel_rfl) (by kernel_rfl) (Or.inl ⟨by rfl, fun w' hS => Or.inl ⟨w', ?_, hS⟩⟩) ?_
                rotate_left
                ·obtain ⟨lp, x0, x1, x2, x3, x4⟩ := PolBl.cells (Blk.below HPw.out hS (Blk.lt HPw.out))
                 go_simp
                 all_goals with_reducible rfl
                simp only [Act.put, List.setIfInBounds_toArray, List.set_cons_zero, List.set_cons_succ]
                refine det_take (v := ?_) (i := 18) (fuel := 27) (by simp; rfl) (by kernel_rfl) (by kernel_rfl) (by kernel_rfl) (Or.inl ⟨by rfl, fun w' hS => Or.inl ⟨w', ?_, hS⟩⟩) ?_
                rotate_left
                ·obtain ⟨lp, x0, x1, x2, x3, x4⟩ := PolBl.cells (Blk.below HPw.out hS (Blk.lt HPw.out))
                 rw [HA2.out] at x2
                 go_simp
                 all_goals with_reducible rfl
                simp only [Act.put, List.setIfInBounds_toArray, List.set_cons_zero, List.set_cons_succ]
                refine det_take (v := ?_) (i := 19) (fuel := 26) (by simp; rfl) (by kernel_rfl) (by kernel_rfl) (by kernel_rfl) (Or.inl ⟨by rfl, fun w' hS => Or.inl ⟨w', ?_, hS⟩⟩) ?_
                rotate_left
                ·go_simp
                 all_goals with_reducible rfl
                simp only [Act.put, List.setIfInBounds_toArray, List.set_cons_zero, List.set_cons_succ]
                refine det_take (v := ?_) (i := 20) (fuel := 25) (by simp; rfl) (by kernel_rfl) (by kernel_rfl) (by kernel_rfl) (Or.inl ⟨by rfl, fun w' hS => Or.inl ⟨w', ?_, hS⟩⟩) ?_
                rotate_left
                ·go_simp
                 all_goals with_reducible rfl
                simp only [Act.put, List.setIfInBounds_toArray, List.set_cons_zero, List.set_cons_succ]
                refine det_take (v := ?_) (i := 21) (fuel := 24) (by simp; rfl) (by kernel_rfl) (by kernel_rfl) (by kernel_rfl) (Or.inl ⟨by rfl, fun w' hS => Or.inl ⟨w', ?_, hS⟩⟩) ?_
                rotate_left
                ·go_simp
                 all_goals with_reducible rfl
                simp only [Act.put, List.setIfInBounds_toArray, List.set_cons_zero, List.set_cons_succ]
                refine det_take (v := ?_) (i := 22) (fuel := 23) (by simp; rfl) (by kernel_rfl) (by kernel_rfl) (by kernel_rfl) (Or.inl ⟨by rfl, fun w' hS => Or.inl ⟨w', ?_, hS⟩⟩) ?_
                rotate_left
                ·have y1 : w'.cell? ⟨g2, o2 + i * 3 + 2, none⟩ = some (.int .u64 (ro : Int)) := (hS.cell (p := ⟨g2, o2 + i * 3 + 2, none⟩) hgW).trans HD.out
                 go_simp
                 all_goals with_reducible rfl
                simp only [Act.put, List.setIfInBounds_toArray, List.set_cons_zero, List.set_cons_succ]
                refine det_take (v := ?_) (i := 23) (fuel := 22) (by simp; rfl) (by kernel_rfl) (by kernel_rfl) (by kernel_rfl) (Or.inl ⟨by rfl, fun w' hS => Or.inl ⟨w', ?_, hS⟩⟩) ?_
                rotate_left
                ·have zl := (HLB.out.below hS HLB.out.lt).lt
                 go_simp
                 all_goals with_reducible rfl
                simp only [Act.put, List.setIfInBounds_toArray, List.set_cons_zero, List.set_cons_succ]
                refine det_take (v := ?_) (i := 24) (fuel := 21) (by simp; rfl) (by kernel_rfl) (by kernel_rfl) (by kernel_rfl) (Or.inl ⟨by rfl, fun w' hS => Or.inl ⟨w', ?_, hS⟩⟩) ?_
                rotate_left
                ·have zl := (HLB.out.below hS HLB.out.lt).lt
                 have z1 : w'.cell? ⟨gq, 1, none⟩ = some (.int .i64 role) := ((HLB.out.below hS HLB.out.lt).cell 1).trans rfl
                 go_simp
                 all_goals with_reducible rfl
                simp only [Act.put, List.setIfInBounds_toArray, List.set_cons_zero, List.set_cons_succ]
                refine det_take (v := ?_) (i := 25) (fuel := 20) (by simp; rfl) (by kernel_rfl) (by kernel_rfl) (by kernel_rfl) (Or.inl ⟨by rfl, fun w' hS => Or.inr ⟨33, #[.slice s.Au nu s.cu, .int .u64 (ro : Int), .int .i64 role], w', ?_, ?_⟩⟩) ?_
                rotate_left
                ·go_simp
                 all_goals with_reducible rfl
                ·exact (HHX.out w' hS).mono fun e w2 h => ⟨by rw [h.1], h.2 ▸ hS⟩
                simp only [Act.put, List.setIfInBounds_toArray, List.set_cons_zero, List.set_cons_succ]
                refine det_take (v := ?_) (i := 26) (fuel := 19) (by simp; rfl) (by kernel_rfl) (by kernel_rfl) (by kernel_rfl) (Or.inl ⟨by rfl, fun w' hS => Or.inl ⟨w', ?_, hS⟩⟩) ?_
                rotate_left
                ·go_simp
                 all_goals with_reducible rfl
                simp only [Act.put, List.setIfInBounds_toArray, List.set_cons_zero, List.set_cons_succ]
                refine det_take (v := ?_) (i := 27) (fuel := 18) (by simp; rfl) (by kernel_rfl) (by kernel_rfl) (by kernel_rfl) (Or.inl ⟨by rfl, fun w' hS => Or.inl ⟨w', ?_, hS⟩⟩) ?_
                rotate_left
                ·go_simp
                 all_goals with_reducible rfl
                simp only [Act.put, List.setIfInBounds_toArray, List.set_cons_zero, List.set_cons_succ]
                refine det_take (v := ?_) (i := 28) (fuel := 17) (by simp; rfl) (by kernel_rfl) (by kernel_rfl) (by kernel_rfl) (Or.inl ⟨by rfl, fun w' hS => Or.inl ⟨w', ?_, hS⟩⟩) ?_
                rotate_left
                ·go_simp
                 all_goals with_reducible rfl
                simp only [Act.put, List.setIfInBounds_toArray, List.set_cons_zero, List.set_cons_succ]
                refine det_take (v := ?_) (i := 29) (fuel := 16) (by simp; rfl) (by kernel_rfl) (by kernel_rfl) (by kernel_rfl) (Or.inl ⟨by rfl, fun w' hS => Or.inl ⟨w', ?_, hS⟩⟩) ?_
                rotate_left
                ·go_simp
                 all_goals with_reducible rfl
                simp only [Act.put, List.setIfInBounds_toArray, List.set_cons_zero, List.set_cons_succ]
                refine det_take (v := ?_) (i := 30) (fuel := 15) (by simp; rfl) (by kernel_rfl) (by kernel_rfl) (by kernel_rfl) (Or.inl ⟨by rfl, fun w' hS => Or.inl ⟨w', ?_, hS⟩⟩) ?_
                rotate_left
                ·go_simp
                 all_goals with_reducible rfl
                simp only [Act.put, List.setIfInBounds_toArray, List.set_cons_zero, List.set_cons_succ]
                refine det_take (v := undef) (i := 31) (fuel := 14) (by simp; rfl) (by kernel_rfl) (by kernel_rfl) (by kernel_rfl) (Or.inr ⟨by rfl, by rfl⟩) ?_
                simp only [Act.put, List.setIfInBounds_toArray, List.set_cons_zero, List.set_cons_succ]
                refine det_take (v := undef) (i := 32) (fuel := 13) (by simp; rfl) (by kernel_rfl) (by kernel_rfl) (by kernel_rfl) (Or.inr ⟨by rfl, by rfl⟩) ?_
                simp only [Act.put, List.setIfInBounds_toArray, List.set_cons_zero, List.set_cons_succ]
                refine det_take (v := undef) (i := 33) (fuel := 12) (by simp; rfl) (by kernel_rfl) (by kernel_rfl) (by kernel_rfl) (Or.inr ⟨by rfl, by rfl⟩) ?_
                simp only [Act.put, List.setIfInBounds_toArray, List.set_cons_zero, List.set_cons_succ]
                refine det_take (v := undef) (i := 34) (fuel := 11) (by simp; rfl) (by kernel_rfl) (by kernel_rfl) (by kernel_rfl) (Or.inr ⟨by rfl, by rfl⟩) ?_
                simp only [Act.put, List.setIfInBounds_toArray, List.set_cons_zero, List.set_cons_succ]
                refine det_take (v := ?_) (i := 35) (fuel := 10) (by simp; rfl) (by kernel_rfl) (by kernel_rfl) (by kernel_rfl) (Or.inl ⟨by rfl, fun w' hS => Or.inl ⟨w', ?_, hS⟩⟩) ?_
                rotate_left
                ·go_simp
                 all_goals with_reducible rfl
                simp only [Act.put, List.setIfInBounds_toArray, List.set_cons_zero, List.set_cons_succ]
                refine det_take (v := ?_) (i := 36) (fuel := 9) (by simp; rfl) (by kernel_rfl) (by kernel_rfl) (by kernel_rfl) (Or.inl ⟨by rfl, fun w' hS => Or.inl ⟨w', ?_, hS⟩⟩) ?_
                rotate_left
                ·go_simp
                 all_goals with_reducible rfl
                simp only [Act.put, List.setIfInBounds_toArray, List.set_cons_zero, List.set_cons_succ]
                refine det_take (v := ?_) (i := 37) (fuel := 8) (by simp; rfl) (by kernel_rfl) (by kernel_rfl) (by kernel_rfl) (Or.inl ⟨by rfl, fun w' hS => Or.inl ⟨w', ?_, hS⟩⟩) ?_
                rotate_left
                ·go_simp
                 all_goals with_reducible rfl
                simp only [Act.put, List.setIfInBounds_toArray, List.set_cons_zero, List.set_cons_succ]
                refine det_take (v := ?_) (i := 38) (fuel := 7) (by simp; rfl) (by kernel_rfl) (by kernel_rfl) (by kernel_rfl) (Or.inl ⟨by rfl, fun w' hS => Or.inl ⟨w', ?_, hS⟩⟩) ?_
                rotate_left
                ·go_simp
                 all_goals with_reducible rfl
                simp only [Act.put, List.setIfInBounds_toArray, List.set_cons_zero, List.set_cons_succ]
                refine det_take (v := ?_) (i := 39) (fuel := 6) (by simp; rfl) (by kernel_rfl) (by kernel_rfl) (by kernel_rfl) (Or.inl ⟨by rfl, fun w' hS => Or.inl ⟨w', ?_, hS⟩⟩) ?_
                rotate_left
                ·go_simp
                 all_goals with_reducible rfl
                simp only [Act.put, List.setIfInBounds_toArray, List.set_cons_zero, List.set_cons_succ]
                refine det_take (v := ?_) (i := 40) (fuel := 5) (by simp; rfl) (by kernel_rfl) (by kernel_rfl) (by kernel_rfl) (Or.inl ⟨by rfl, fun w' hS => Or.inl ⟨w', ?_, hS⟩⟩) ?_
                rotate_left
                ·have zl := (HLB.out.below hS HLB.out.lt).lt
                 go_simp
                 all_goals with_reducible rfl
                simp only [Act.put, List.setIfInBounds_toArray, List.set_cons_zero, List.set_cons_succ]
                refine det_take (v := ?_) (i := 41) (fuel := 4) (by simp; rfl) (by kernel_rfl) (by kernel_rfl) (by kernel_rfl) (Or.inl ⟨by rfl, fun w' hS => Or.inl ⟨w', ?_, hS⟩⟩) ?_
                rotate_left
                ·have zl := (HLB.out.below hS HLB.out.lt).lt
                 have z3 : w'.cell? ⟨gq, 3, none⟩ = some (.int .i64 ent) := ((HLB.out.below hS HLB.out.lt).cell 3).trans rfl
                 go_simp
                 all_goals with_reducible rfl
                simp only [Act.put, List.setIfInBounds_toArray, List.set_cons_zero, List.set_cons_succ]
                refine det_take (v := ?_) (i := 42) (fuel := 3) (by simp; rfl) (by kernel_rfl) (by kernel_rfl) (by kernel_rfl) (Or.inl ⟨by rfl, fun w' hS => Or.inl ⟨w', ?_, hS⟩⟩) ?_
                rotate_left
                ·go_simp
                 all_goals with_reducible rfl
                simp only [Act.put, List.setIfInBounds_toArray, List.set_cons_zero, List.set_cons_succ]
                refine det_take (v := ?_) (i := 43) (fuel := 2) (by simp; rfl) (by kernel_rfl) (by kernel_rfl) (by kernel_rfl) (Or.inl ⟨by rfl, fun w' hS => Or.inl ⟨w', ?_, hS⟩⟩) ?_
                rotate_left
                ·go_simp
                 all_goals with_reducible rfl
                simp only [Act.put, List.setIfInBounds_toArray, List.set_cons_zero, List.set_cons_succ]
                refine det_take (v := ?_) (i := 44) (fuel := 1) (by simp; rfl) (by kernel_rfl) (by kernel_rfl) (by kernel_rfl) (Or.inl ⟨by rfl, fun w' hS => Or.inl ⟨w', ?_, hS⟩⟩) ?_
                rotate_left
                ·go_simp
                 all_goals with_reducible rfl
                simp only [Act.put, List.setIfInBounds_toArray, List.set_cons_zero, List.set_cons_succ]
                refine det_take (v := ?_) (i := 45) (fuel := 0) (by simp; rfl) (by kernel_rfl) (by kernel_rfl) (by kernel_rfl) (Or.inl ⟨by rfl, fun w' hS => Or.inl ⟨w', ?_, hS⟩⟩) ?_
                rotate_left
                ·go_simp
                 all_goals with_reducible rfl
                simp only [Act.put, List.setIfInBounds_toArray, List.set_cons_zero, List.set_cons_succ]
                refine det_done (by kernel_rfl) (fun V hV => ?_) _
                have HV9 := Lib.hid (HSw.out.trans (hV.mono HSw.out.size))
                have hN : tagM (spk P ro vb e) (P.rules.take (j + 1)) = t1 := by rw [tagM_no HGR.out HSZ.out, HT1.out]
                have HR9 := Lib.hid (And.intro (show decide (tagM (spk P ro vb e) (P.rules.take (j + 1)) ≠ 0) = b1 by rw [hN]; exact HD1.out) (show decide (tagM (spk P ro vb e) (P.rules.take (j + 1)) = 2) = b2 by rw [hN]; exact HD2.out))
                clear hN
                go_wp2
                go_roundw
                case rel => exact ⟨j + 1, HJ.out, by go_num, by rw [HR9.out.1], by rw [HR9.out.2], HV9.out⟩
                case measure => simp [intOf]; omega
            ·have hb5 : (verb == vb) = false := by simp; omega
             have HSZ := Lib.hid (show spk P ro vb e ⟨tag, role, verb, ent, grp, line, neg, c0, c1, sc, toS, toL⟩ = false by rw [HSY.out]; rw [decide_eq_false j1, Bool.false_and, Bool.and_false])
             clear j1
             refine wp_region_det (S := fun V => Below W2.heap.size W2 V) (by kernel_rfl) (Below.refl W2.heap.size W2).drew ?_
             refine det_take (v := ?_) (i := 0) (fuel := 45) (by simp; rfl) (by kernel_rfl) (by kernel_rfl) (by kernel_rfl) (Or.inl ⟨by rfl, fun w' hS => Or.inl ⟨w', ?_, hS⟩⟩) ?_
             rotate_left
             ·have zl := (HLB.out.below hS HLB.out.lt).lt
              go_simp
              all_goals with_reducible rfl
             simp only [Act.put, List.setIfInBounds_toArray, List.set_cons_zero, List.set_cons_succ]
             refine det_take (v := ?_) (i := 1) (fuel := 44) (by simp; rfl) (by kernel_rfl) (by kernel_rfl) (by kernel_rfl) (Or.inl ⟨by rfl, fun w' hS => Or.inl ⟨w', ?_, hS⟩⟩) ?_
             rotate_left
             ·have zl := (HLB.out.below hS HLB.out.lt).lt
              have z0 : w'.cell? ⟨gq, 0, none⟩ = some (.int .i64 tag) := ((HLB.out.below hS HLB.out.lt).cell 0).trans rfl
              go_simp
              all_goals with_reducible rfl
             simp only [Act.put, List.setIfInBounds_toArray, List.set_cons_zero, List.set_cons_succ]
             refine det_take (v := ?_) (i := 2) (fuel := 43) (by simp; rfl) (by kernel_rfl) (by kernel_rfl) (by kernel_rfl) (Or.inl ⟨by rfl, fun w' hS => Or.inl ⟨w', ?_, hS⟩⟩) ?_
             rotate_left
             ·go_simp
              all_goals with_reducible rfl
             simp only [Act.put, List.setIfInBounds_toArray, List.set_cons_zero, List.set_cons_succ]
             refine det_take (v := ?_) (i := 3) (fuel := 42) (by simp; rfl) (by kernel_rfl) (by kernel_rfl) (by kernel_rfl) (Or.inl ⟨by rfl, fun w' hS => Or.inl ⟨w', ?_, hS⟩⟩) ?_
             rotate_left
             ·go_simp
              all_goals with_reducible rfl
             simp only [Act.put, List.setIfInBounds_toArray, List.set_cons_zero, List.set_cons_succ]
             refine det_take (v := ?_) (i := 4) (fuel := 41) (by simp; rfl) (by kernel_rfl) (by kernel_rfl) (by kernel_rfl) (Or.inl ⟨by rfl, fun w' hS => Or.inl ⟨w', ?_, hS⟩⟩) ?_
             rotate_left
             ·have zl := (HLB.out.below hS HLB.out.lt).lt
              go_simp
              all_goals with_reducible rfl
             simp only [Act.put, List.setIfInBounds_toArray, List.set_cons_zero, List.set_cons_succ]
             refine det_take (v := ?_) (i := 5) (fuel := 40) (by simp; rfl) (by kernel_rfl) (by kernel_rfl) (by kernel_rfl) (Or.inl ⟨by rfl, fun w' hS => Or.inl ⟨w', ?_, hS⟩⟩) ?_
             rotate_left
             ·have zl := (HLB.out.below hS HLB.out.lt).lt
              have z0 : w'.cell? ⟨gq, 0, none⟩ = some (.int .i64 tag) := ((HLB.out.below hS HLB.out.lt).cell 0).trans rfl
              go_simp
              all_goals with_reducible rfl
             simp only [Act.put, List.setIfInBounds_toArray, List.set_cons_zero, List.set_cons_succ]
             refine det_take (v := ?_) (i := 6) (fuel := 39) (by simp; rfl) (by kernel_rfl) (by kernel_rfl) (by kernel_rfl) (Or.inl ⟨by rfl, fun w' hS => Or.inl ⟨w', ?_, hS⟩⟩) ?_
             rotate_left
             ·go_simp
              all_goals with_reducible rfl
             simp only [Act.put, List.setIfInBounds_toArray, List.set_cons_zero, List.set_cons_succ]
             refine det_take (v := ?_) (i := 7) (fuel := 38) (by simp; rfl) (by kernel_rfl) (by kernel_rfl) (by kernel_rfl) (Or.inl ⟨by rfl, fun w' hS => Or.inl ⟨w', ?_, hS⟩⟩) ?_
             rotate_left
             ·go_simp
              all_goals with_reducible rfl
             simp only [Act.put, List.setIfInBounds_toArray, List.set_cons_zero, List.set_cons_succ]
             refine det_take (v := ?_) (i := 8) (fuel := 37) (by simp; rfl) (by kernel_rfl) (by kernel_rfl) (by kernel_rfl) (Or.inl ⟨by rfl, fun w' hS => Or.inl ⟨w', ?_, hS⟩⟩) ?_
             rotate_left
             ·go_simp
              all_goals with_reducible rfl
             simp only [Act.put, List.setIfInBounds_toArray, List.set_cons_zero, List.set_cons_succ]
             refine det_take (v := ?_) (i := 9) (fuel := 36) (by simp; rfl) (by kernel_rfl) (by kernel_rfl) (by kernel_rfl) (Or.inl ⟨by rfl, fun w' hS => Or.inl ⟨w', ?_, hS⟩⟩) ?_
             rotate_left
             ·have zl := (HLB.out.below hS HLB.out.lt).lt
              go_simp
              all_goals with_reducible rfl
             simp only [Act.put, List.setIfInBounds_toArray, List.set_cons_zero, List.set_cons_succ]
             refine det_take (v := ?_) (i := 10) (fuel := 35) (by simp; rfl) (by kernel_rfl) (by kernel_rfl) (by kernel_rfl) (Or.inl ⟨by rfl, fun w' hS => Or.inl ⟨w', ?_, hS⟩⟩) ?_
             rotate_left
             ·have zl := (HLB.out.below hS HLB.out.lt).lt
              have z2 : w'.cell? ⟨gq, 2, none⟩ = some (.int .i64 verb) := ((HLB.out.below hS HLB.out.lt).cell 2).trans rfl
              go_simp
              all_goals with_reducible rfl
             simp only [Act.put, List.setIfInBounds_toArray, List.set_cons_zero, List.set_cons_succ]
             refine det_take (v := ?_) (i := 11) (fuel := 34) (by simp; rfl) (by kernel_rfl) (by kernel_rfl) (by kernel_rfl) (Or.inl ⟨by rfl, fun w' hS => Or.inl ⟨w', ?_, hS⟩⟩) ?_
             rotate_left
             ·go_simp
              all_goals with_reducible rfl
             simp only [Act.put, List.setIfInBounds_toArray, List.set_cons_zero, List.set_cons_succ]
             refine det_take (v := ?_) (i := 12) (fuel := 33) (by simp; rfl) (by kernel_rfl) (by kernel_rfl) (by kernel_rfl) (Or.inl ⟨by rfl, fun w' hS => Or.inl ⟨w', ?_, hS⟩⟩) ?_
             rotate_left
             ·go_simp
              all_goals with_reducible rfl
             simp only [Act.put, List.setIfInBounds_toArray, List.set_cons_zero, List.set_cons_succ]
             refine det_take (v := ?_) (i := 13) (fuel := 32) (by simp; rfl) (by kernel_rfl) (by kernel_rfl) (by kernel_rfl) (Or.inl ⟨by rfl, fun w' hS => Or.inl ⟨w', ?_, hS⟩⟩) ?_
             rotate_left
             ·go_simp
              all_goals with_reducible rfl
             simp only [Act.put, List.setIfInBounds_toArray, List.set_cons_zero, List.set_cons_succ]
             refine det_take (v := ?_) (i := 14) (fuel := 31) (by simp; rfl) (by kernel_rfl) (by kernel_rfl) (by kernel_rfl) (Or.inl ⟨by rfl, fun w' hS => Or.inl ⟨w', ?_, hS⟩⟩) ?_
             rotate_left
             ·go_simp
              all_goals with_reducible rfl
             simp only [Act.put, List.setIfInBounds_toArray, List.set_cons_zero, List.set_cons_succ]
             refine det_take (v := undef) (i := 15) (fuel := 30) (by simp; rfl) (by kernel_rfl) (by kernel_rfl) (by kernel_rfl) (Or.inr ⟨by rfl, by rfl⟩) ?_
             simp only [Act.put, List.setIfInBounds_toArray, List.set_cons_zero, List.set_cons_succ]
             refine det_take (v := undef) (i := 16) (fuel := 29) (by simp; rfl) (by kernel_rfl) (by kernel_rfl) (by kernel_rfl) (Or.inr ⟨by rfl, by rfl⟩) ?_
             simp only [Act.put, List.setIfInBounds_toArray, List.set_cons_zero, List.set_cons_succ]
             refine det_take (v := undef) (i := 17) (fuel := 28) (by simp; rfl) (by kernel_rfl) (by kernel_rfl) (by kernel_rfl) (Or.inr ⟨by rfl, by rfl⟩) ?_
             simp only [Act.put, List.setIfInBounds_toArray, List.set_cons_zero, List.set_cons_succ]
             refine det_take (v := undef) (i := 18) (fuel := 27) (by simp; rfl) (by kernel_rfl) (by kernel_rfl) (by kernel_rfl) (Or.inr ⟨by rfl, by rfl⟩) ?_
             simp only [Act.put, List.setIfInBounds_toArray, List.set_cons_zero, List.set_cons_succ]
             refine det_take (v := undef) (i := 19) (fuel := 26) (by simp; rfl) (by kernel_rfl) (by kernel_rfl) (by kernel_rfl) (Or.inr ⟨by rfl, by rfl⟩) ?_
             simp only [Act.put, List.setIfInBounds_toArray, List.set_cons_zero, List.set_cons_succ]
             refine det_take (v := undef) (i := 20) (fuel := 25) (by simp; rfl) (by kernel_rfl) (by kernel_rfl) (by kernel_rfl) (Or.inr ⟨by rfl, by rfl⟩) ?_
             simp only [Act.put, List.setIfInBounds_toArray, List.set_cons_zero, List.set_cons_succ]
             refine det_take (v := undef) (i := 21) (fuel := 24) (by simp; rfl) (by kernel_rfl) (by kernel_rfl) (by kernel_rfl) (Or.inr ⟨by rfl, by rfl⟩) ?_
             simp only [Act.put, List.setIfInBounds_toArray, List.set_cons_zero, List.set_cons_succ]
             refine det_take (v := undef) (i := 22) (fuel := 23) (by simp; rfl) (by kernel_rfl) (by kernel_rfl) (by kernel_rfl) (Or.inr ⟨by rfl, by rfl⟩) ?_
             simp only [Act.put, List.setIfInBounds_toArray, List.set_cons_zero, List.set_cons_succ]
             refine det_take (v := undef) (i := 23) (fuel := 22) (by simp; rfl) (by kernel_rfl) (by kernel_rfl) (by kernel_rfl) (Or.inr ⟨by rfl, by rfl⟩) ?_
             simp only [Act.put, List.setIfInBounds_toArray, List.set_cons_zero, List.set_cons_succ]
             refine det_take (v := undef) (i := 24) (fuel := 21) (by simp; rfl) (by kernel_rfl) (by kernel_rfl) (by kernel_rfl) (Or.inr ⟨by rfl, by rfl⟩) ?_
             simp only [Act.put, List.setIfInBounds_toArray, List.set_cons_zero, List.set_cons_succ]
             refine det_take (v := undef) (i := 25) (fuel := 20) (by simp; rfl) (by kernel_rfl) (by kernel_rfl) (by kernel_rfl) (Or.inr ⟨by rfl, by rfl⟩) ?_
             simp only [Act.put, List.setIfInBounds_toArray, List.set_cons_zero, List.set_cons_succ]
             refine det_take (v := ?_) (i := 26) (fuel := 19) (by simp; rfl) (by kernel_rfl) (by kernel_rfl) (by kernel_rfl) (Or.inl ⟨by rfl, fun w' hS => Or.inl ⟨w', ?_, hS⟩⟩) ?_
             rotate_left
             ·go_simp
              all_goals with_reducible rfl
             simp only [Act.put, List.setIfInBounds_toArray, List.set_cons_zero, List.set_cons_succ]
             refine det_take (v := ?_) (i := 27) (fuel := 18) (by simp; rfl) (by kernel_rfl) (by kernel_rfl) (by kernel_rfl) (Or.inl ⟨by rfl, fun w' hS => Or.inl ⟨w', ?_, hS⟩⟩) ?_
             rotate_left
             ·go_simp
              all_goals with_reducible rfl
             simp only [Act.put, List.setIfInBounds_toArray, List.set_cons_zero, List.set_cons_succ]
             refine det_take (v := undef) (i := 28) (fuel := 17) (by simp; rfl) (by kernel_rfl) (by kernel_rfl) (by kernel_rfl) (Or.inr ⟨by rfl, by rfl⟩) ?_
             simp only [Act.put, List.setIfInBounds_toArray, List.set_cons_zero, List.set_cons_succ]
             refine det_take (v := undef) (i := 29) (fuel := 16) (by simp; rfl) (by kernel_rfl) (by kernel_rfl) (by kernel_rfl) (Or.inr ⟨by rfl, by rfl⟩) ?_
             simp only [Act.put, List.setIfInBounds_toArray, List.set_cons_zero, List.set_cons_succ]
             refine det_take (v := undef) (i := 30) (fuel := 15) (by simp; rfl) (by kernel_rfl) (by kernel_rfl) (by kernel_rfl) (Or.inr ⟨by rfl, by rfl⟩) ?_
             simp only [Act.put, List.setIfInBounds_toArray, List.set_cons_zero, List.set_cons_succ]
             refine det_take (v := undef) (i := 31) (fuel := 14) (by simp; rfl) (by kernel_rfl) (by kernel_rfl) (by kernel_rfl) (Or.inr ⟨by rfl, by rfl⟩) ?_
             simp only [Act.put, List.setIfInBounds_toArray, List.set_cons_zero, List.set_cons_succ]
             refine det_take (v := undef) (i := 32) (fuel := 13) (by simp; rfl) (by kernel_rfl) (by kernel_rfl) (by kernel_rfl) (Or.inr ⟨by rfl, by rfl⟩) ?_
             simp only [Act.put, List.setIfInBounds_toArray, List.set_cons_zero, List.set_cons_succ]
             refine det_take (v := undef) (i := 33) (fuel := 12) (by simp; rfl) (by kernel_rfl) (by kernel_rfl) (by kernel_rfl) (Or.inr ⟨by rfl, by rfl⟩) ?_
             simp only [Act.put, List.setIfInBounds_toArray, List.set_cons_zero, List.set_cons_succ]
             refine det_take (v := undef) (i := 34) (fuel := 11) (by simp; rfl) (by kernel_rfl) (by kernel_rfl) (by kernel_rfl) (Or.inr ⟨by rfl, by rfl⟩) ?_
             simp only [Act.put, List.setIfInBounds_toArray, List.set_cons_zero, List.set_cons_succ]
             refine det_take (v := undef) (i := 35) (fuel := 10) (by simp; rfl) (by kernel_rfl) (by kernel_rfl) (by kernel_rfl) (Or.inr ⟨by rfl, by rfl⟩) ?_
             simp only [Act.put, List.setIfInBounds_toArray, List.set_cons_zero, List.set_cons_succ]
             refine det_take (v := undef) (i := 36) (fuel := 9) (by simp; rfl) (by kernel_rfl) (by kernel_rfl) (by kernel_rfl) (Or.inr ⟨by rfl, by rfl⟩) ?_
             simp only [Act.put, List.setIfInBounds_toArray, List.set_cons_zero, List.set_cons_succ]
             refine det_take (v := undef) (i := 37) (fuel := 8) (by simp; rfl) (by kernel_rfl) (by kernel_rfl) (by kernel_rfl) (Or.inr ⟨by rfl, by rfl⟩) ?_
             simp only [Act.put, List.setIfInBounds_toArray, List.set_cons_zero, List.set_cons_succ]
             refine det_take (v := undef) (i := 38) (fuel := 7) (by simp; rfl) (by kernel_rfl) (by kernel_rfl) (by kernel_rfl) (Or.inr ⟨by rfl, by rfl⟩) ?_
             simp only [Act.put, List.setIfInBounds_toArray, List.set_cons_zero, List.set_cons_succ]
             refine det_take (v := undef) (i := 39) (fuel := 6) (by simp; rfl) (by kernel_rfl) (by kernel_rfl) (by kernel_rfl) (Or.inr ⟨by rfl, by rfl⟩) ?_
             simp only [Act.put, List.setIfInBounds_toArray, List.set_cons_zero, List.set_cons_succ]
             refine det_take (v := undef) (i := 40) (fuel := 5) (by simp; rfl) (by kernel_rfl) (by kernel_rfl) (by kernel_rfl) (Or.inr ⟨by rfl, by rfl⟩) ?_
             simp only [Act.put, List.setIfInBounds_toArray, List.set_cons_zero, List.set_cons_succ]
             refine det_take (v := undef) (i := 41) (fuel := 4) (by simp; rfl) (by kernel_rfl) (by kernel_rfl) (by kernel_rfl) (Or.inr ⟨by rfl, by rfl⟩) ?_
             simp only [Act.put, List.setIfInBounds_toArray, List.set_cons_zero, List.set_cons_succ]
             refine det_take (v := undef) (i := 42) (fuel := 3) (by simp; rfl) (by kernel_rfl) (by kernel_rfl) (by kernel_rfl) (Or.inr ⟨by rfl, by rfl⟩) ?_
             simp only [Act.put, List.setIfInBounds_toArray, List.set_cons_zero, List.set_cons_succ]
             refine det_take (v := undef) (i := 43) (fuel := 2) (by simp; rfl) (by kernel_rfl) (by kernel_rfl) (by kernel_rfl) (Or.inr ⟨by rfl, by rfl⟩) ?_
             simp only [Act.put, List.setIfInBounds_toArray, List.set_cons_zero, List.set_cons_succ]
             refine det_take (v := undef) (i := 44) (fuel := 1) (by simp; rfl) (by kernel_rfl) (by kernel_rfl) (by kernel_rfl) (Or.inr ⟨by rfl, by rfl⟩) ?_
             simp only [Act.put, List.setIfInBounds_toArray, List.set_cons_zero, List.set_cons_succ]
             refine det_take (v := ?_) (i := 45) (fuel := 0) (by simp; rfl) (by kernel_rfl) (by kernel_rfl) (by kernel_rfl) (Or.inl ⟨by rfl, fun w' hS => Or.inl ⟨w', ?_, hS⟩⟩) ?_
             rotate_left
             ·go_simp
              all_goals with_reducible rfl
             simp only [Act.put, List.setIfInBounds_toArray, List.set_cons_zero, List.set_cons_succ]
             refine det_done (by kernel_rfl) (fun V hV => ?_) _
             have HV9 := Lib.hid (HSw.out.trans (hV.mono HSw.out.size))
             have hN : tagM (spk P ro vb e) (P.rules.take (j + 1)) = t1 := by rw [tagM_no HGR.out HSZ.out, HT1.out]
             have HR9 := Lib.hid (And.intro (show decide (tagM (spk P ro vb e) (P.rules.take (j + 1)) ≠ 0) = b1 by rw [hN]; exact HD1.out) (show decide (tagM (spk P ro vb e) (P.rules.take (j + 1)) = 2) = b2 by rw [hN]; exact HD2.out))
             clear hN
             go_wp2
             go_roundw
             case rel => exact ⟨j + 1, HJ.out, by go_num, by rw [HR9.out.1], by rw [HR9.out.2], HV9.out⟩
             case measure => simp [intOf]; omega
           ·have hq2 : (tag == 2) = false := by simp; omega
            have HSZ := Lib.hid (show spk P ro vb e ⟨tag, role, verb, ent, grp, line, neg, c0, c1, sc, toS, toL⟩ = false by rw [HSY.out]; rw [decide_eq_false (by omega), Bool.false_and])
            clear g1 g2 htg
            refine wp_region_det (S := fun V => Below W2.heap.size W2 V) (by kernel_rfl) (Below.refl W2.heap.size W2).drew ?_
            refine det_take (v := ?_) (i := 0) (fuel := 45) (by simp; rfl) (by kernel_rfl) (by kernel_rfl) (by kernel_rfl) (Or.inl ⟨by rfl, fun w' hS => Or.inl ⟨w', ?_, hS⟩⟩) ?_
            rotate_left
            ·have zl := (HLB.out.below hS HLB.out.lt).lt
             go_simp
             all_goals with_reducible rfl
            simp only [Act.put, List.setIfInBounds_toArray, List.set_cons_zero, List.set_cons_succ]
            refine det_take (v := ?_) (i := 1) (fuel := 44) (by simp; rfl) (by kernel_rfl) (by kernel_rfl) (by kernel_rfl) (Or.inl ⟨by rfl, fun w' hS => Or.inl ⟨w', ?_, hS⟩⟩) ?_
            rotate_left
            ·have zl := (HLB.out.below hS HLB.out.lt).lt
             have z0 : w'.cell? ⟨gq, 0, none⟩ = some (.int .i64 tag) := ((HLB.out.below hS HLB.out.lt).cell 0).trans rfl
             go_simp
             all_goals with_reducible rfl
            simp only [Act.put, List.setIfInBounds_toArray, List.set_cons_zero, List.set_cons_succ]
            refine det_take (v := ?_) (i := 2) (fuel := 43) (by simp; rfl) (by kernel_rfl) (by kernel_rfl) (by kernel_rfl) (Or.inl ⟨by rfl, fun w' hS => Or.inl ⟨w', ?_, hS⟩⟩) ?_
            rotate_left
            ·go_simp
             all_goals with_reducible rfl
            simp only [Act.put, List.setIfInBounds_toArray, List.set_cons_zero, List.set_cons_succ]
            refine det_take (v := ?_) (i := 3) (fuel := 42) (by simp; rfl) (by kernel_rfl) (by kernel_rfl) (by kernel_rfl) (Or.inl ⟨by rfl, fun w' hS => Or.inl ⟨w', ?_, hS⟩⟩) ?_
            rotate_left
            ·go_simp
             all_goals with_reducible rfl
            simp only [Act.put, List.setIfInBounds_toArray, List.set_cons_zero, List.set_cons_succ]
            refine det_take (v := ?_) (i := 4) (fuel := 41) (by simp; rfl) (by kernel_rfl) (by kernel_rfl) (by kernel_rfl) (Or.inl ⟨by rfl, fun w' hS => Or.inl ⟨w', ?_, hS⟩⟩) ?_
            rotate_left
            ·have zl := (HLB.out.below hS HLB.out.lt).lt
             go_simp
             all_goals with_reducible rfl
            simp only [Act.put, List.setIfInBounds_toArray, List.set_cons_zero, List.set_cons_succ]
            refine det_take (v := ?_) (i := 5) (fuel := 40) (by simp; rfl) (by kernel_rfl) (by kernel_rfl) (by kernel_rfl) (Or.inl ⟨by rfl, fun w' hS => Or.inl ⟨w', ?_, hS⟩⟩) ?_
            rotate_left
            ·have zl := (HLB.out.below hS HLB.out.lt).lt
             have z0 : w'.cell? ⟨gq, 0, none⟩ = some (.int .i64 tag) := ((HLB.out.below hS HLB.out.lt).cell 0).trans rfl
             go_simp
             all_goals with_reducible rfl
            simp only [Act.put, List.setIfInBounds_toArray, List.set_cons_zero, List.set_cons_succ]
            refine det_take (v := ?_) (i := 6) (fuel := 39) (by simp; rfl) (by kernel_rfl) (by kernel_rfl) (by kernel_rfl) (Or.inl ⟨by rfl, fun w' hS => Or.inl ⟨w', ?_, hS⟩⟩) ?_
            rotate_left
            ·go_simp
             all_goals with_reducible rfl
            simp only [Act.put, List.setIfInBounds_toArray, List.set_cons_zero, List.set_cons_succ]
            refine det_take (v := ?_) (i := 7) (fuel := 38) (by simp; rfl) (by kernel_rfl) (by kernel_rfl) (by kernel_rfl) (Or.inl ⟨by rfl, fun w' hS => Or.inl ⟨w', ?_, hS⟩⟩) ?_
            rotate_left
            ·go_simp
             all_goals with_reducible rfl
            simp only [Act.put, List.setIfInBounds_toArray, List.set_cons_zero, List.set_cons_succ]
            refine det_take (v := ?_) (i := 8) (fuel := 37) (by simp; rfl) (by kernel_rfl) (by kernel_rfl) (by kernel_rfl) (Or.inl ⟨by rfl, fun w' hS => Or.inl ⟨w', ?_, hS⟩⟩) ?_
            rotate_left
            ·go_simp
             all_goals with_reducible rfl
            simp only [Act.put, List.setIfInBounds_toArray, List.set_cons_zero, List.set_cons_succ]
            refine det_take (v := undef) (i := 9) (fuel := 36) (by simp; rfl) (by kernel_rfl) (by kernel_rfl) (by kernel_rfl) (Or.inr ⟨by rfl, by rfl⟩) ?_
            simp only [Act.put, List.setIfInBounds_toArray, List.set_cons_zero, List.set_cons_succ]
            refine det_take (v := undef) (i := 10) (fuel := 35) (by simp; rfl) (by kernel_rfl) (by kernel_rfl) (by kernel_rfl) (Or.inr ⟨by rfl, by rfl⟩) ?_
            simp only [Act.put, List.setIfInBounds_toArray, List.set_cons_zero, List.set_cons_succ]
            refine det_take (v := undef) (i := 11) (fuel := 34) (by simp; rfl) (by kernel_rfl) (by kernel_rfl) (by kernel_rfl) (Or.inr ⟨by rfl, by rfl⟩) ?_
            simp only [Act.put, List.setIfInBounds_toArray, List.set_cons_zero, List.set_cons_succ]
            refine det_take (v := undef) (i := 12) (fuel := 33) (by simp; rfl) (by kernel_rfl) (by kernel_rfl) (by kernel_rfl) (Or.inr ⟨by rfl, by rfl⟩) ?_
            simp only [Act.put, List.setIfInBounds_toArray, List.set_cons_zero, List.set_cons_succ]
            refine det_take (v := ?_) (i := 13) (fuel := 32) (by simp; rfl) (by kernel_rfl) (by kernel_rfl) (by kernel_rfl) (Or.inl ⟨by rfl, fun w' hS => Or.inl ⟨w', ?_, hS⟩⟩) ?_
            rotate_left
            ·go_simp
             all_goals with_reducible rfl
            simp only [Act.put, List.setIfInBounds_toArray, List.set_cons_zero, List.set_cons_succ]
            refine det_take (v := ?_) (i := 14) (fuel := 31) (by simp; rfl) (by kernel_rfl) (by kernel_rfl) (by kernel_rfl) (Or.inl ⟨by rfl, fun w' hS => Or.inl ⟨w', ?_, hS⟩⟩) ?_
            rotate_left
            ·go_simp
             all_goals with_reducible rfl
            simp only [Act.put, List.setIfInBounds_toArray, List.set_cons_zero, List.set_cons_succ]
            refine det_take (v := undef) (i := 15) (fuel := 30) (by simp; rfl) (by kernel_rfl) (by kernel_rfl) (by kernel_rfl) (Or.inr ⟨by rfl, by rfl⟩) ?_
            simp only [Act.put, List.setIfInBounds_toArray, List.set_cons_zero, List.set_cons_succ]
            refine det_take (v := undef) (i := 16) (fuel := 29) (by simp; rfl) (by kernel_rfl) (by kernel_rfl) (by kernel_rfl) (Or.inr ⟨by rfl, by rfl⟩) ?_
            simp only [Act.put, List.setIfInBounds_toArray, List.set_cons_zero, List.set_cons_succ]
            refine det_take (v := undef) (i := 17) (fuel := 28) (by simp; rfl) (by kernel_rfl) (by kernel_rfl) (by kernel_rfl) (Or.inr ⟨by rfl, by rfl⟩) ?_
            simp only [Act.put, List.setIfInBounds_toArray, List.set_cons_zero, List.set_cons_succ]
            refine det_take (v := undef) (i := 18) (fuel := 27) (by simp; rfl) (by kernel_rfl) (by kernel_rfl) (by kernel_rfl) (Or.inr ⟨by rfl, by rfl⟩) ?_
            simp only [Act.put, List.setIfInBounds_toArray, List.set_cons_zero, List.set_cons_succ]
            refine det_take (v := undef) (i := 19) (fuel := 26) (by simp; rfl) (by kernel_rfl) (by kernel_rfl) (by kernel_rfl) (Or.inr ⟨by rfl, by rfl⟩) ?_
            simp only [Act.put, List.setIfInBounds_toArray, List.set_cons_zero, List.set_cons_succ]
            refine det_take (v := undef) (i := 20) (fuel := 25) (by simp; rfl) (by kernel_rfl) (by kernel_rfl) (by kernel_rfl) (Or.inr ⟨by rfl, by rfl⟩) ?_
            simp only [Act.put, List.setIfInBounds_toArray, List.set_cons_zero, List.set_cons_succ]
            refine det_take (v := undef) (i := 21) (fuel := 24) (by simp; rfl) (by kernel_rfl) (by kernel_rfl) (by kernel_rfl) (Or.inr ⟨by rfl, by rfl⟩) ?_
            simp only [Act.put, List.setIfInBounds_toArray, List.set_cons_zero, List.set_cons_succ]
            refine det_take (v := undef) (i := 22) (fuel := 23) (by simp; rfl) (by kernel_rfl) (by kernel_rfl) (by kernel_rfl) (Or.inr ⟨by rfl, by rfl⟩) ?_
            simp only [Act.put, List.setIfInBounds_toArray, List.set_cons_zero, List.set_cons_succ]
            refine det_take (v := undef) (i := 23) (fuel := 22) (by simp; rfl) (by kernel_rfl) (by kernel_rfl) (by kernel_rfl) (Or.inr ⟨by rfl, by rfl⟩) ?_
            simp only [Act.put, List.setIfInBounds_toArray, List.set_cons_zero, List.set_cons_succ]
            refine det_take (v := undef) (i := 24) (fuel := 21) (by simp; rfl) (by kernel_rfl) (by kernel_rfl) (by kernel_rfl) (Or.inr ⟨by rfl, by rfl⟩) ?_
            simp only [Act.put, List.setIfInBounds_toArray, List.set_cons_zero, List.set_cons_succ]
            refine det_take (v := undef) (i := 25) (fuel := 20) (by simp; rfl) (by kernel_rfl) (by kernel_rfl) (by kernel_rfl) (Or.inr ⟨by rfl, by rfl⟩) ?_
            simp only [Act.put, List.setIfInBounds_toArray, List.set_cons_zero, List.set_cons_succ]
            refine det_take (v := ?_) (i := 26) (fuel := 19) (by simp; rfl) (by kernel_rfl) (by kernel_rfl) (by kernel_rfl) (Or.inl ⟨by rfl, fun w' hS => Or.inl ⟨w', ?_, hS⟩⟩) ?_
            rotate_left
            ·go_simp
             all_goals with_reducible rfl
            simp only [Act.put, List.setIfInBounds_toArray, List.set_cons_zero, List.set_cons_succ]
            refine det_take (v := ?_) (i := 27) (fuel := 18) (by simp; rfl) (by kernel_rfl) (by kernel_rfl) (by kernel_rfl) (Or.inl ⟨by rfl, fun w' hS => Or.inl ⟨w', ?_, hS⟩⟩) ?_
            rotate_left
            ·go_simp
             all_goals with_reducible rfl
            simp only [Act.put, List.setIfInBounds_toArray, List.set_cons_zero, List.set_cons_succ]
            refine det_take (v := undef) (i := 28) (fuel := 17) (by simp; rfl) (by kernel_rfl) (by kernel_rfl) (by kernel_rfl) (Or.inr ⟨by rfl, by rfl⟩) ?_
            simp only [Act.put, List.setIfInBounds_toArray, List.set_cons_zero, List.set_cons_succ]
            refine det_take (v := undef) (i := 29) (fuel := 16) (by simp; rfl) (by kernel_rfl) (by kernel_rfl) (by kernel_rfl) (Or.inr ⟨by rfl, by rfl⟩) ?_
            simp only [Act.put, List.setIfInBounds_toArray, List.set_cons_zero, List.set_cons_succ]
            refine det_take (v := undef) (i := 30) (fuel := 15) (by simp; rfl) (by kernel_rfl) (by kernel_rfl) (by kernel_rfl) (Or.inr ⟨by rfl, by rfl⟩) ?_
            simp only [Act.put, List.setIfInBounds_toArray, List.set_cons_zero, List.set_cons_succ]
            refine det_take (v := undef) (i := 31) (fuel := 14) (by simp; rfl) (by kernel_rfl) (by kernel_rfl) (by kernel_rfl) (Or.inr ⟨by rfl, by rfl⟩) ?_
            simp only [Act.put, List.setIfInBounds_toArray, List.set_cons_zero, List.set_cons_succ]
            refine det_take (v := undef) (i := 32) (fuel := 13) (by simp; rfl) (by kernel_rfl) (by kernel_rfl) (by kernel_rfl) (Or.inr ⟨by rfl, by rfl⟩) ?_
            simp only [Act.put, List.setIfInBounds_toArray, List.set_cons_zero, List.set_cons_succ]
            refine det_take (v := undef) (i := 33) (fuel := 12) (by simp; rfl) (by kernel_rfl) (by kernel_rfl) (by kernel_rfl) (Or.inr ⟨by rfl, by rfl⟩) ?_
            simp only [Act.put, List.setIfInBounds_toArray, List.set_cons_zero, List.set_cons_succ]
            refine det_take (v := undef) (i := 34) (fuel := 11) (by simp; rfl) (by kernel_rfl) (by kernel_rfl) (by kernel_rfl) (Or.inr ⟨by rfl, by rfl⟩) ?_
            simp only [Act.put, List.setIfInBounds_toArray, List.set_cons_zero, List.set_cons_succ]
            refine det_take (v := undef) (i := 35) (fuel := 10) (by simp; rfl) (by kernel_rfl) (by kernel_rfl) (by kernel_rfl) (Or.inr ⟨by rfl, by rfl⟩) ?_
            simp only [Act.put, List.setIfInBounds_toArray, List.set_cons_zero, List.set_cons_succ]
            refine det_take (v := undef) (i := 36) (fuel := 9) (by simp; rfl) (by kernel_rfl) (by kernel_rfl) (by kernel_rfl) (Or.inr ⟨by rfl, by rfl⟩) ?_
            simp only [Act.put, List.setIfInBounds_toArray, List.set_cons_zero, List.set_cons_succ]
            refine det_take (v := undef) (i := 37) (fuel := 8) (by simp; rfl) (by kernel_rfl) (by kernel_rfl) (by kernel_rfl) (Or.inr ⟨by rfl, by rfl⟩) ?_
            simp only [Act.put, List.setIfInBounds_toArray, List.set_cons_zero, List.set_cons_succ]
            refine det_take (v := undef) (i := 38) (fuel := 7) (by simp; rfl) (by kernel_rfl) (by kernel_rfl) (by kernel_rfl) (Or.inr ⟨by rfl, by rfl⟩) ?_
            simp only [Act.put, List.setIfInBounds_toArray, List.set_cons_zero, List.set_cons_succ]
            refine det_take (v := undef) (i := 39) (fuel := 6) (by simp; rfl) (by kernel_rfl) (by kernel_rfl) (by kernel_rfl) (Or.inr ⟨by rfl, by rfl⟩) ?_
            simp only [Act.put, List.setIfInBounds_toArray, List.set_cons_zero, List.set_cons_succ]
            refine det_take (v := undef) (i := 40) (fuel := 5) (by simp; rfl) (by kernel_rfl) (by kernel_rfl) (by kernel_rfl) (Or.inr ⟨by rfl, by rfl⟩) ?_
            simp only [Act.put, List.setIfInBounds_toArray, List.set_cons_zero, List.set_cons_succ]
            refine det_take (v := undef) (i := 41) (fuel := 4) (by simp; rfl) (by kernel_rfl) (by kernel_rfl) (by kernel_rfl) (Or.inr ⟨by rfl, by rfl⟩) ?_
            simp only [Act.put, List.setIfInBounds_toArray, List.set_cons_zero, List.set_cons_succ]
            refine det_take (v := undef) (i := 42) (fuel := 3) (by simp; rfl) (by kernel_rfl) (by kernel_rfl) (by kernel_rfl) (Or.inr ⟨by rfl, by rfl⟩) ?_
            simp only [Act.put, List.setIfInBounds_toArray, List.set_cons_zero, List.set_cons_succ]
            refine det_take (v := undef) (i := 43) (fuel := 2) (by simp; rfl) (by kernel_rfl) (by kernel_rfl) (by kernel_rfl) (Or.inr ⟨by rfl, by rfl⟩) ?_
            simp only [Act.put, List.setIfInBounds_toArray, List.set_cons_zero, List.set_cons_succ]
            refine det_take (v := undef) (i := 44) (fuel := 1) (by simp; rfl) (by kernel_rfl) (by kernel_rfl) (by kernel_rfl) (Or.inr ⟨by rfl, by rfl⟩) ?_
            simp only [Act.put, List.setIfInBounds_toArray, List.set_cons_zero, List.set_cons_succ]
            refine det_take (v := ?_) (i := 45) (fuel := 0) (by simp; rfl) (by kernel_rfl) (by kernel_rfl) (by kernel_rfl) (Or.inl ⟨by rfl, fun w' hS => Or.inl ⟨w', ?_, hS⟩⟩) ?_
            rotate_left
            ·go_simp
             all_goals with_reducible rfl
            simp only [Act.put, List.setIfInBounds_toArray, List.set_cons_zero, List.set_cons_succ]
            refine det_done (by kernel_rfl) (fun V hV => ?_) _
            have HV9 := Lib.hid (HSw.out.trans (hV.mono HSw.out.size))
            have hN : tagM (spk P ro vb e) (P.rules.take (j + 1)) = t1 := by rw [tagM_no HGR.out HSZ.out, HT1.out]
            have HR9 := Lib.hid (And.intro (show decide (tagM (spk P ro vb e) (P.rules.take (j + 1)) ≠ 0) = b1 by rw [hN]; exact HD1.out) (show decide (tagM (spk P ro vb e) (P.rules.take (j + 1)) = 2) = b2 by rw [hN]; exact HD2.out))
            clear hN
            go_wp2
            go_roundw
            case rel => exact ⟨j + 1, HJ.out, by go_num, by rw [HR9.out.1], by rw [HR9.out.2], HV9.out⟩
            case measure => simp [intOf]; omega
         ·have hlt' : ¬ (j : Int) < (nr : Int) := by omega
          obtain rfl : j = nr := by omega
          have e1 := HT1.out
          rw [← hlen, List.take_length] at e1
          have hv := HV2.out
          unfold mayL at hv
          have HSo2 := Lib.hid HSr.out
          by_cases ht : t1 = 0
          ·obtain rfl : b1 = false := by rw [← HD1.out, decide_eq_false (by omega)]
           have HO := Lib.hid (show (1 ≤ p + 1 → tagM (spk P x.ro vb en) P.rules = 0) ∧ (2 ≤ p + 1 → tagM (spk P x.ro vb (-1)) P.rules = 0) by
            have h12 := HP12.out
            rcases HE.out with ⟨h0, he⟩ | ⟨h0, he⟩
            ·rw [he] at e1
             exact ⟨fun _ => by rw [e1]; exact ht, fun h => by omega⟩
            ·rw [he] at e1
             exact ⟨fun _ => h12.1 (by omega), fun h => by rw [e1]; exact ht⟩)
           clear hv ht e1
           go_wp2
           go_roundw
           case rel => exact ⟨p + 1, by omega, by go_num, HO.out.1, HO.out.2, HSo2.out⟩
           case measure => simp [intOf]; omega
          ·obtain rfl : b1 = true := by rw [← HD1.out, decide_eq_true (by omega)]
           have hQ : q = !b2 := by
            have h12 := HP12.out
            have hrg := HRG.out
            rw [← hv, ← HD2.out]
            rcases HE.out with ⟨h0, he⟩ | ⟨h0, he⟩
            ·rw [he] at e1
             rw [e1, if_neg ht, Bool.eq_iff_iff]
             simp
             omega
            ·rw [he] at e1
             rw [h12.1 (by omega), if_pos rfl, e1, Bool.eq_iff_iff]
             simp
             omega
           have HQ := Lib.hid hQ
           clear hv ht e1 hQ
           go_wp2
           go_ret
           exact ⟨by rw [HQ.out]; rfl, HFr.out⟩
       ·have hpl' : ¬ (p : Int) < 2 := by omega
        obtain rfl : q = false := by
         have h12 := HP12.out
         have hv := HV2.out
         unfold mayL at hv
         rw [h12.1 (by omega), if_pos rfl, h12.2 (by omega)] at hv
         exact hv.symm
        go_wp2
        go_ret
        exact ⟨rfl, HFo.out⟩
     ·skip
      obtain rfl : q = false := by
       have h := HV.out
       unfold mayB at h
       rw [← h]
       rw [decide_eq_false (show ¬ en < (P.ents.length : Int) by rw [HNE.out]; exact k4)]; simp
      go_wp2
      go_ret
      exact ⟨rfl, HF1.out⟩
    ·skip
     obtain rfl : q = false := by
      have h := HV.out
      unfold mayB at h
      rw [← h]
      rw [decide_eq_false k3]; simp
     go_wp2
     go_ret
     exact ⟨rfl, HF1.out⟩
   ·skip
    obtain rfl : q = false := by
     have h := HV.out
     unfold mayB at h
     rw [← h]
     rw [decide_eq_false (show ¬ k < (P.who.length : Int) by rw [HNH.out]; exact k2)]; simp
    go_wp2
    go_ret
    exact ⟨rfl, HF1.out⟩
  ·skip
   obtain rfl : q = false := by
    have h := HV.out
    unfold mayB at h
    rw [← h]
    rw [decide_eq_false k1]; simp
   go_wp2
   go_ret
   exact ⟨rfl, HF1.out⟩
end Go.Proofs.Ytakofbkbbmpfeaa

/- rule.has; who may what, plainly; rule.May. -/
import Derived.Test.YtakofbkbbmpfeaaRulC
namespace Go.Proofs.Ytakofbkbbmpfeaa
open Go.RowKit
/-- The highest Tag of those that c picks; 0: of none. -/
def tagM (c : RuleP → Bool) (l : List RuleP) : Int := l.foldl (fun a r => if c r then max a r.tag else a) 0
theorem tagM_nil (c : RuleP → Bool) : tagM c [] = 0 := rfl
theorem tagM_snoc (c : RuleP → Bool) (l : List RuleP) (r : RuleP) : tagM c (l ++ [r]) = if c r then max (tagM c l) r.tag else tagM c l := by
  unfold tagM
  rw [List.foldl_append]
  rfl
theorem take_next {α : Type} {l : List α} {k : Nat} {a : α} (h : l[k]? = some a) : l.take (k + 1) = l.take k ++ [a] := by
  obtain ⟨h1, rfl⟩ := List.getElem?_eq_some_iff.1 h
  rw [List.take_append_getElem h1]
theorem tagM_yes {c : RuleP → Bool} {l : List RuleP} {k : Nat} {r : RuleP} (h : l[k]? = some r) (hc : c r = true) : tagM c (l.take (k + 1)) = max (tagM c (l.take k)) r.tag := by rw [take_next h, tagM_snoc, if_pos hc]
theorem tagM_no {c : RuleP → Bool} {l : List RuleP} {k : Nat} {r : RuleP} (h : l[k]? = some r) (hc : c r = false) : tagM c (l.take (k + 1)) = tagM c (l.take k) := by rw [take_next h, tagM_snoc, hc]; rfl
/-- Does a rule of Allow or Deny speak of that verb, of the entity e, to one who has these roles? -/
def spk (P : PolP) (ro : Nat) (verb e : Int) (r : RuleP) : Bool := decide (r.tag = 1 ∨ r.tag = 2) && (decide (r.verb = verb) && (hasV P.up ro r.role && decide (r.ent = e)))
def mayL (P : PolP) (ro : Nat) (verb e : Int) : Bool := if tagM (spk P ro verb e) P.rules = 0 then decide (tagM (spk P ro verb (-1)) P.rules = 1) else decide (tagM (spk P ro verb e) P.rules = 1)
def mayB (β : Bool) (P : PolP) (k verb e : Int) : Bool := β && (decide (0 ≤ k) && (decide (k < (P.who.length : Int)) && (decide (0 ≤ e) && (decide (e < (P.ents.length : Int)) && mayL P (whoAt P k).ro verb e))))
set_option maxRecDepth 100000 in
set_option maxHeartbeats 3200000 in
theorem ruHas_c (s : Slp) (P : PolP) (w : World) (ne ng nh nu nr : Nat) (h : PolRd w w.heap.size s P) (hwd : PolWd P) (hnh : P.who.length = nh) (hnu : P.up.length = nu) (k : Nat) (x : WhoP) (hx : P.who[k]? = some x) (r : RuleP) (hr : r.role < 9223372036854775808) (q : Bool) (hq : hasV P.up x.ro r.role = q) :
    Calls Try.prog 32 #[.agg #[.slice s.Ae ne s.ce, .slice s.Ag ng s.cg, .slice s.Ah nh s.ch, .slice s.Au nu s.cu, .slice s.Ar nr s.cr], .int .i64 (k : Int), .agg (ruleV r).toArray] w (RetB w q) := by
  have hk : k < nh := by have := (List.getElem?_eq_some_iff.1 hx).1; omega
  obtain ⟨g, o, hA, hg, _, _, c2⟩ := rd_who h.2.2.1 (by omega) hx
  have hro := (hwd.2.1 _ (List.mem_of_getElem? hx)).2
  obtain ⟨st, lv, ro⟩ := x
  obtain ⟨tag, role, verb, ent, grp, line, neg, c0, c1, sc, toS, toL⟩ := r
  dsimp only at c2 hro hq hr
  show Calls Try.prog 32 #[.agg #[.slice s.Ae ne s.ce, .slice s.Ag ng s.cg, .slice s.Ah nh s.ch, .slice s.Au nu s.cu, .slice s.Ar nr s.cr], .int .i64 (k : Int), .agg #[.int .i64 tag, .int .i64 role, .int .i64 verb, .int .i64 ent, .int .i64 grp, .int .i64 line, .bool neg, .int .u64 (c0 : Int), .int .u64 (c1 : Int), .int .i64 sc, .int .u64 (toS : Int), .int .i64 toL]] w (RetB w q)
  obtain ⟨gp, hgp⟩ : ∃ g, w.heap.size = g := ⟨_, rfl⟩
  obtain ⟨W1, hW1⟩ : ∃ V, w.alloc (.cells #[.slice s.Ae ne s.ce, .slice s.Ag ng s.cg, .slice s.Ah nh s.ch, .slice s.Au nu s.cu, .slice s.Ar nr s.cr] 28) = V := ⟨_, rfl⟩
  have hs1 : W1.heap.size = gp + 1 := by rw [← hW1, ← hgp]; simp
  obtain ⟨W, hW⟩ : ∃ V, W1.alloc (.cells #[.int .i64 tag, .int .i64 role, .int .i64 verb, .int .i64 ent, .int .i64 grp, .int .i64 line, .bool neg, .int .u64 (c0 : Int), .int .u64 (c1 : Int), .int .i64 sc, .int .u64 (toS : Int), .int .i64 toL] 51) = V := ⟨_, rfl⟩
  have HBW := Lib.hid (show Below w.heap.size w W from by rw [← hW, ← hW1]; exact bel_alloc (bel_alloc (Below.refl _ _) _) _)
  have HPB := Lib.hid (show PolBl W gp s ne ng nh nu nr from by rw [← hW]; refine Blk.alloc ?_ _; rw [← hW1, ← hgp]; exact Blk.new _ _ _)
  have HLB := Lib.hid (show Blk W (gp + 1) 51 #[.int .i64 tag, .int .i64 role, .int .i64 verb, .int .i64 ent, .int .i64 grp, .int .i64 line, .bool neg, .int .u64 (c0 : Int), .int .u64 (c1 : Int), .int .i64 sc, .int .u64 (toS : Int), .int .i64 toL] from by rw [← hW, ← hs1]; exact Blk.new _ _ _)
  have HHR := Lib.hid (fun (V : World) (hb : Below W.heap.size W V) => by
    have h4 := ((h.2.2.2.1.below HBW.out).below (hb.mono HBW.out.size)).more (Nat.le_trans HBW.out.size hb.size)
    rw [hnu] at h4
    have g := roHas_c s.Au nu s.cu P.up ro (ro : Int) role V h4 (by have := hwd.2.2.2.2.2.2.1; omega) rfl hro hr
    rw [hq] at g
    exact g)
  have HA := Lib.hid hA
  have hgW : g < W.heap.size := by have := HBW.out.size; omega
  have HR0 := Lib.hid (show W.cell? ⟨g, o + k * 3 + 2, none⟩ = some (.int .u64 (ro : Int)) from (HBW.out.cell (p := ⟨g, o + k * 3 + 2, none⟩) hg).trans c2)
  have hlh := hwd.2.2.2.2.2.1
  rw [hnh] at hlh
  clear h hwd hnh hnu hx hr hq hro hA c2 hg
  go_enter Try.func32, Try.ntmps32
  go_wp2_with fail
  clear hW hW1 hgp hs1
  refine wp_region_det (S := fun V => Below W.heap.size W V) (by kernel_rfl) (Below.refl W.heap.size W).drew ?_
  refine det_take (v := ?_) (i := 0) (fuel := 11) (by simp; rfl) (by kernel_rfl) (by kernel_rfl) (by kernel_rfl) (Or.inl ⟨by rfl, fun w' hS => Or.inl ⟨w', ?_, hS⟩⟩) ?_
  rotate_left
  · obtain ⟨lp, x0, x1, x2, x3, x4⟩ := PolBl.cells (Blk.below HPB.out hS (Blk.lt HPB.out))
    go_simp
    all_goals with_reducible rfl
  simp only [Act.put, List.setIfInBounds_toArray, List.set_cons_zero, List.set_cons_succ]
  refine det_take (v := ?_) (i := 1) (fuel := 10) (by simp; rfl) (by kernel_rfl) (by kernel_rfl) (by kernel_rfl) (Or.inl ⟨by rfl, fun w' hS => Or.inl ⟨w', ?_, hS⟩⟩) ?_
  rotate_left
  · obtain ⟨lp, x0, x1, x2, x3, x4⟩ := PolBl.cells (Blk.below HPB.out hS (Blk.lt HPB.out))
    go_simp
    all_goals with_reducible rfl
  simp only [Act.put, List.setIfInBounds_toArray, List.set_cons_zero, List.set_cons_succ]
  refine det_take (v := ?_) (i := 2) (fuel := 9) (by simp; rfl) (by kernel_rfl) (by kernel_rfl) (by kernel_rfl) (Or.inl ⟨by rfl, fun w' hS => Or.inl ⟨w', ?_, hS⟩⟩) ?_
  rotate_left
  · obtain ⟨lp, x0, x1, x2, x3, x4⟩ := PolBl.cells (Blk.below HPB.out hS (Blk.lt HPB.out))
    rw [HA.out] at x2
    go_simp
    all_goals with_reducible rfl
  simp only [Act.put, List.setIfInBounds_toArray, List.set_cons_zero, List.set_cons_succ]
  refine det_take (v := ?_) (i := 3) (fuel := 8) (by simp; rfl) (by kernel_rfl) (by kernel_rfl) (by kernel_rfl) (Or.inl ⟨by rfl, fun w' hS => Or.inl ⟨w', ?_, hS⟩⟩) ?_
  rotate_left
  · obtain ⟨lp, x0, x1, x2, x3, x4⟩ := PolBl.cells (Blk.below HPB.out hS (Blk.lt HPB.out))
    rw [HA.out] at x2
    go_simp
    all_goals with_reducible rfl
  simp only [Act.put, List.setIfInBounds_toArray, List.set_cons_zero, List.set_cons_succ]
  refine det_take (v := ?_) (i := 4) (fuel := 7) (by simp; rfl) (by kernel_rfl) (by kernel_rfl) (by kernel_rfl) (Or.inl ⟨by rfl, fun w' hS => Or.inl ⟨w', ?_, hS⟩⟩) ?_
  rotate_left
  · go_simp
    all_goals with_reducible rfl
  simp only [Act.put, List.setIfInBounds_toArray, List.set_cons_zero, List.set_cons_succ]
  refine det_take (v := ?_) (i := 5) (fuel := 6) (by simp; rfl) (by kernel_rfl) (by kernel_rfl) (by kernel_rfl) (Or.inl ⟨by rfl, fun w' hS => Or.inl ⟨w', ?_, hS⟩⟩) ?_
  rotate_left
  · go_simp
    all_goals with_reducible rfl
  simp only [Act.put, List.setIfInBounds_toArray, List.set_cons_zero, List.set_cons_succ]
  refine det_take (v := ?_) (i := 6) (fuel := 5) (by simp; rfl) (by kernel_rfl) (by kernel_rfl) (by kernel_rfl) (Or.inl ⟨by rfl, fun w' hS => Or.inl ⟨w', ?_, hS⟩⟩) ?_
  rotate_left
  · go_simp
    all_goals with_reducible rfl
  simp only [Act.put, List.setIfInBounds_toArray, List.set_cons_zero, List.set_cons_succ]
  refine det_take (v := ?_) (i := 7) (fuel := 4) (by simp; rfl) (by kernel_rfl) (by kernel_rfl) (by kernel_rfl) (Or.inl ⟨by rfl, fun w' hS => Or.inl ⟨w', ?_, hS⟩⟩) ?_
  rotate_left
  · have z1 : w'.cell? ⟨g, o + k * 3 + 2, none⟩ = some (.int .u64 (ro : Int)) := (hS.cell (p := ⟨g, o + k * 3 + 2, none⟩) hgW).trans HR0.out
    go_simp
    all_goals with_reducible rfl
  simp only [Act.put, List.setIfInBounds_toArray, List.set_cons_zero, List.set_cons_succ]
  refine det_take (v := ?_) (i := 8) (fuel := 3) (by simp; rfl) (by kernel_rfl) (by kernel_rfl) (by kernel_rfl) (Or.inl ⟨by rfl, fun w' hS => Or.inl ⟨w', ?_, hS⟩⟩) ?_
  rotate_left
  · have zl := (HLB.out.below hS HLB.out.lt).lt
    go_simp
    all_goals with_reducible rfl
  simp only [Act.put, List.setIfInBounds_toArray, List.set_cons_zero, List.set_cons_succ]
  refine det_take (v := ?_) (i := 9) (fuel := 2) (by simp; rfl) (by kernel_rfl) (by kernel_rfl) (by kernel_rfl) (Or.inl ⟨by rfl, fun w' hS => Or.inl ⟨w', ?_, hS⟩⟩) ?_
  rotate_left
  · have z1 : w'.cell? ⟨gp + 1, 1, none⟩ = some (.int .i64 role) := ((HLB.out.below hS HLB.out.lt).cell 1).trans rfl
    have zl := (HLB.out.below hS HLB.out.lt).lt
    go_simp
    all_goals with_reducible rfl
  simp only [Act.put, List.setIfInBounds_toArray, List.set_cons_zero, List.set_cons_succ]
  refine det_take (v := ?_) (i := 10) (fuel := 1) (by simp; rfl) (by kernel_rfl) (by kernel_rfl) (by kernel_rfl) (Or.inl ⟨by rfl, fun w' hS => Or.inr ⟨49, #[.slice s.Au nu s.cu, .int .u64 (ro : Int), .int .i64 role], w', ?_, ?_⟩⟩) ?_
  rotate_left
  · go_simp
    all_goals with_reducible rfl
  · exact (HHR.out w' hS).mono fun e w2 h => ⟨by rw [h.1], h.2 ▸ hS⟩
  simp only [Act.put, List.setIfInBounds_toArray, List.set_cons_zero, List.set_cons_succ]
  refine det_take (v := ?_) (i := 11) (fuel := 0) (by simp; rfl) (by kernel_rfl) (by kernel_rfl) (by kernel_rfl) (Or.inl ⟨by rfl, fun w' hS => Or.inl ⟨w', ?_, hS⟩⟩) ?_
  rotate_left
  · go_simp
    all_goals with_reducible rfl
  simp only [Act.put, List.setIfInBounds_toArray, List.set_cons_zero, List.set_cons_succ]
  refine det_done (by kernel_rfl) (fun V hV => ?_) _
  go_wp2
  go_ret
  exact ⟨rfl, HBW.out.trans (hV.mono HBW.out.size)⟩
def MayRel (W : World) (P : PolP) (ro : Nat) (verb e : Int) (u v i : Value) (wr : World) : Prop := ∃ j : Nat, j ≤ P.rules.length ∧ i = .int .i64 j ∧ u = .int .i64 (tagM (spk P ro verb e) (P.rules.take j)) ∧ v = .int .i64 (tagM (spk P ro verb (-1)) (P.rules.take j)) ∧ Below W.heap.size W wr
set_option maxRecDepth 100000 in
set_option maxHeartbeats 3200000 in
theorem ruMay_c (s : Slp) (P : PolP) (w : World) (ne ng nh nu nr : Nat) (h : PolRd w w.heap.size s P) (hwd : PolWd P) (hne : P.ents.length = ne) (hng : P.grp.length = ng) (hnh : P.who.length = nh) (hnu : P.up.length = nu) (hnr : P.rules.length = nr) (β : Bool) (hβ : β = true ↔ RightPol P) (k : Int) (vb : Int) (en : Int) (q : Bool) (hq : mayB β P k vb en = q) :
    Calls Try.prog 10 #[.agg #[.slice s.Ae ne s.ce, .slice s.Ag ng s.cg, .slice s.Ah nh s.ch, .slice s.Au nu s.cu, .slice s.Ar nr s.cr], .int .i64 k, .int .i64 vb, .int .i64 en] w (RetB w q) := by
  obtain ⟨gp, hgp⟩ : ∃ g, w.heap.size = g := ⟨_, rfl⟩
  obtain ⟨W, hW⟩ : ∃ V, w.alloc (.cells #[.slice s.Ae ne s.ce, .slice s.Ag ng s.cg, .slice s.Ah nh s.ch, .slice s.Au nu s.cu, .slice s.Ar nr s.cr] 28) = V := ⟨_, rfl⟩
  have HBW := Lib.hid (show Below w.heap.size w W from by rw [← hW]; exact bel_alloc (Below.refl _ _) _)
  have HPB := Lib.hid (show PolBl W gp s ne ng nh nu nr from by rw [← hW, ← hgp]; exact Blk.new _ _ _)
  have HRD := Lib.hid (fun (V : World) (hb : Below W.heap.size W V) => ((h.below HBW.out).below (hb.mono HBW.out.size)).more (Nat.le_trans HBW.out.size hb.size))
  have HRX := Lib.hid (h.below HBW.out)
  have HRP := Lib.hid (ruRight_c s P W ne ng nh nu nr (HRD.out W (Below.refl _ _)) hwd hne hng hnh hnu hnr β hβ)
  have HAK := Lib.hid (fun (V : World) (b : Bool) (e : (decide (0 ≤ k) && decide (k < (nh : Int))) = b) => among_c k (nh : Int) b V e)
  have HAE := Lib.hid (fun (V : World) (b : Bool) (e : (decide (0 ≤ en) && decide (en < (ne : Int))) = b) => among_c en (ne : Int) b V e)
  have HV := Lib.hid hq
  have HWD := Lib.hid hwd
  have HBT := Lib.hid hβ
  have HNE := Lib.hid hne
  have HNH := Lib.hid hnh
  have HNU := Lib.hid hnu
  have HNR := Lib.hid hnr
  have hlr := hwd.2.2.2.2.2.2.2
  rw [hnr] at hlr
  obtain ⟨lp, x0, x1, x2, x3, x4⟩ := HPB.out.cells
  clear h hwd hne hng hnh hnu hnr hβ hq
  go_enter Try.func10, Try.ntmps10
  go_wp2_with fail
  (with_reducible refine HRP.out.mono ?_)
  rintro e w1 ⟨rfl, hb⟩
  have HS1 := Lib.hid hb
  have HP1 := Lib.hid (show PolBl w1 gp s ne ng nh nu nr from Blk.below HPB.out hb (Blk.lt HPB.out))
  clear hb lp x0 x1 x2 x3 x4 hW hgp HRP
  obtain ⟨lp, x0, x1, x2, x3, x4⟩ := HP1.out.cells
  have HF1 := Lib.hid (HBW.out.trans (HS1.out.mono HBW.out.size))
  cases β
  · obtain rfl : q = false := HV.out.symm
    go_wp2
    go_ret
    exact ⟨rfl, HF1.out⟩
  · by_cases k1 : 0 ≤ k ∧ k < (nh : Int)
    · have HAKm := Lib.hid (fun V => HAK.out V true (by rw [decide_eq_true k1.1, decide_eq_true k1.2]; rfl))
      go_wp2_with fail
      (with_reducible refine (HAKm.out _).mono ?_)
      rintro e w2 ⟨rfl, rfl⟩
      by_cases k2 : 0 ≤ en ∧ en < (ne : Int)
      · have HAEm := Lib.hid (fun V => HAE.out V true (by rw [decide_eq_true k2.1, decide_eq_true k2.2]; rfl))
        obtain ⟨i, rfl⟩ : ∃ i : Nat, k = (i : Int) := ⟨k.toNat, by omega⟩
        obtain ⟨x, hx⟩ := get_at (l := P.who) (k := i) (by rw [HNH.out]; omega)
        have HV2 := Lib.hid (show mayL P x.ro vb en = q by
          have h := HV.out
          unfold mayB whoAt at h
          rw [decide_eq_true k1.1, decide_eq_true (show (i : Int) < (P.who.length : Int) by rw [HNH.out]; exact k1.2), decide_eq_true k2.1, decide_eq_true (show en < (P.ents.length : Int) by rw [HNE.out]; exact k2.2), Int.toNat_natCast, hx] at h
          simpa using h)
        have HX := Lib.hid hx
        have HK2 := Lib.hid k2
        clear hx k2 HV
        go_wp2_with fail
        (with_reducible refine (HAEm.out _).mono ?_)
        rintro e w3 ⟨rfl, rfl⟩
        go_wp2
        clear lp x0 x1 x2 x3 x4
        go_loopw [9, 10, 35] (fun u v i wr => MayRel W P x.ro vb en u v i wr) (fun _ _ i _ => nr - (intOf i).toNat)
        case atStart => exact ⟨0, by omega, rfl, rfl, rfl, HS1.out⟩
        case round =>
          obtain ⟨j, hj, rfl, rfl, rfl, hb⟩ := hrel
          have HSr := Lib.hid hb
          have HPr := Lib.hid (show PolBl wr gp s ne ng nh nu nr from Blk.below HPB.out hb (Blk.lt HPB.out))
          have HRr := Lib.hid (HRX.out.below (hb.mono HBW.out.size))
          have HFr := Lib.hid (HBW.out.trans (hb.mono HBW.out.size))
          obtain ⟨lp, x0, x1, x2, x3, x4⟩ := HPr.out.cells
          have hlen := HNR.out
          rw [hlen] at hj
          obtain ⟨t1, ht1⟩ : ∃ t, tagM (spk P x.ro vb en) (P.rules.take j) = t := ⟨_, rfl⟩
          obtain ⟨t2, ht2⟩ : ∃ t, tagM (spk P x.ro vb (-1)) (P.rules.take j) = t := ⟨_, rfl⟩
          rw [ht1, ht2]
          have HT1 := Lib.hid ht1
          have HT2 := Lib.hid ht2
          clear hb ht1 ht2
          by_cases hlt : j < nr
          · have hlt' : (j : Int) < (nr : Int) := by omega
            obtain ⟨r, hr⟩ := get_at (l := P.rules) (k := j) (by rw [hlen]; exact hlt)
            obtain ⟨g, o, hA, hg, hc⟩ := rd_rule HRr.out.2.2.2.2 (by rw [hlen]; omega) hr
            have hok := (HBT.out.1 (by first | rfl | trivial)).2.2.2.2 _ _ hr
            have hrl : r.role < 9223372036854775808 := by
              have h1 := hok.1.2
              have h2 := HWD.out.2.2.2.2.2.2.1
              omega
            have htg : r.tag = 1 ∨ r.tag = 2 ∨ r.tag = 3 := by
              rcases hok.2 with h | h
              · have := h.1; omega
              · have := h.1; omega
            obtain ⟨η, hη⟩ : ∃ b, hasV P.up x.ro r.role = b := ⟨_, rfl⟩
            have HHA := Lib.hid (fun (V : World) (hb : Below W.heap.size W V) => ruHas_c s P V ne ng nh nu nr (HRD.out V hb) HWD.out HNH.out HNU.out i x HX.out r hrl η hη)
            have HSY := Lib.hid (fun (e : Int) => show spk P x.ro vb e r = (decide (r.tag = 1 ∨ r.tag = 2) && (decide (r.verb = vb) && (η && decide (r.ent = e)))) by unfold spk; rw [hη])
            have HGR := Lib.hid hr
            have HTG := Lib.hid htg
            obtain ⟨tag, role, verb, ent, grp, line, neg, c0, c1, sc, toS, toL⟩ := r
            dsimp only at HSY HTG
            have z0 : wr.cell? ⟨g, o + j * 12, none⟩ = some (.int .i64 tag) := hc 0 _ (by decide) rfl
            have z1 : wr.cell? ⟨g, o + j * 12 + 1, none⟩ = some (.int .i64 role) := hc 1 _ (by decide) rfl
            have z2 : wr.cell? ⟨g, o + j * 12 + 2, none⟩ = some (.int .i64 verb) := hc 2 _ (by decide) rfl
            have z3 : wr.cell? ⟨g, o + j * 12 + 3, none⟩ = some (.int .i64 ent) := hc 3 _ (by decide) rfl
            have z4 : wr.cell? ⟨g, o + j * 12 + 4, none⟩ = some (.int .i64 grp) := hc 4 _ (by decide) rfl
            have z5 : wr.cell? ⟨g, o + j * 12 + 5, none⟩ = some (.int .i64 line) := hc 5 _ (by decide) rfl
            have z6 : wr.cell? ⟨g, o + j * 12 + 6, none⟩ = some (.bool neg) := hc 6 _ (by decide) rfl
            have z7 : wr.cell? ⟨g, o + j * 12 + 7, none⟩ = some (.int .u64 (c0 : Int)) := hc 7 _ (by decide) rfl
            have z8 : wr.cell? ⟨g, o + j * 12 + 8, none⟩ = some (.int .u64 (c1 : Int)) := hc 8 _ (by decide) rfl
            have z9 : wr.cell? ⟨g, o + j * 12 + 9, none⟩ = some (.int .i64 sc) := hc 9 _ (by decide) rfl
            have z10 : wr.cell? ⟨g, o + j * 12 + 10, none⟩ = some (.int .u64 (toS : Int)) := hc 10 _ (by decide) rfl
            have z11 : wr.cell? ⟨g, o + j * 12 + 11, none⟩ = some (.int .i64 toL) := hc 11 _ (by decide) rfl
            have HHX := Lib.hid (fun (V : World) (hb : Below W.heap.size W V) => show Calls Try.prog 32 #[.agg #[.slice s.Ae ne s.ce, .slice s.Ag ng s.cg, .slice s.Ah nh s.ch, .slice s.Au nu s.cu, .slice s.Ar nr s.cr], .int .i64 (i : Int), .agg #[.int .i64 tag, .int .i64 role, .int .i64 verb, .int .i64 ent, .int .i64 grp, .int .i64 line, .bool neg, .int .u64 (c0 : Int), .int .u64 (c1 : Int), .int .i64 sc, .int .u64 (toS : Int), .int .i64 toL]] V (RetB V η) from HHA.out V hb)
            obtain ⟨W2, hW2⟩ : ∃ V, wr.alloc (.cells #[.int .i64 tag, .int .i64 role, .int .i64 verb, .int .i64 ent, .int .i64 grp, .int .i64 line, .bool neg, .int .u64 (c0 : Int), .int .u64 (c1 : Int), .int .i64 sc, .int .u64 (toS : Int), .int .i64 toL] 51) = V := ⟨_, rfl⟩
            obtain ⟨gq, hgq⟩ : ∃ g, wr.heap.size = g := ⟨_, rfl⟩
            have HSw := Lib.hid (show Below W.heap.size W W2 from by rw [← hW2]; exact bel_alloc HSr.out _)
            have HLB := Lib.hid (show Blk W2 gq 51 #[.int .i64 tag, .int .i64 role, .int .i64 verb, .int .i64 ent, .int .i64 grp, .int .i64 line, .bool neg, .int .u64 (c0 : Int), .int .u64 (c1 : Int), .int .i64 sc, .int .u64 (toS : Int), .int .i64 toL] from by rw [← hW2, ← hgq]; exact Blk.new _ _ _)
            have HPw := Lib.hid (show PolBl W2 gp s ne ng nh nu nr from by rw [← hW2]; exact Blk.alloc HPr.out _)
            obtain ⟨vp, v0, v1, v2, v3, v4⟩ := HPw.out.cells
            have C2 := HLB.out
            have y0 : W2.cell? ⟨gq, 0, none⟩ = some (.int .i64 tag) := (C2.cell 0).trans rfl
            have y1 : W2.cell? ⟨gq, 1, none⟩ = some (.int .i64 role) := (C2.cell 1).trans rfl
            have y2 : W2.cell? ⟨gq, 2, none⟩ = some (.int .i64 verb) := (C2.cell 2).trans rfl
            have y3 : W2.cell? ⟨gq, 3, none⟩ = some (.int .i64 ent) := (C2.cell 3).trans rfl
            have y4 : W2.cell? ⟨gq, 4, none⟩ = some (.int .i64 grp) := (C2.cell 4).trans rfl
            have y5 : W2.cell? ⟨gq, 5, none⟩ = some (.int .i64 line) := (C2.cell 5).trans rfl
            have y6 : W2.cell? ⟨gq, 6, none⟩ = some (.bool neg) := (C2.cell 6).trans rfl
            have y7 : W2.cell? ⟨gq, 7, none⟩ = some (.int .u64 (c0 : Int)) := (C2.cell 7).trans rfl
            have y8 : W2.cell? ⟨gq, 8, none⟩ = some (.int .u64 (c1 : Int)) := (C2.cell 8).trans rfl
            have y9 : W2.cell? ⟨gq, 9, none⟩ = some (.int .i64 sc) := (C2.cell 9).trans rfl
            have y10 : W2.cell? ⟨gq, 10, none⟩ = some (.int .u64 (toS : Int)) := (C2.cell 10).trans rfl
            have y11 : W2.cell? ⟨gq, 11, none⟩ = some (.int .i64 toL) := (C2.cell 11).trans rfl
            have yl := C2.lt
            rw [hA] at x4 v4 HHX ⊢
            clear hc hA hη hok hrl htg HHA hr C2
            have HJ := Lib.hid (show j < P.rules.length by rw [hlen]; exact hlt)
            by_cases k3 : tag = 3
            · have hb3 : (tag == 3) = true := by simp; omega
              have N1 : ∀ e, spk P x.ro vb e ⟨tag, role, verb, ent, grp, line, neg, c0, c1, sc, toS, toL⟩ = false := fun e => by rw [HSY.out, decide_eq_false (by omega), Bool.false_and]
              have HN := Lib.hid N1
              clear k3 N1 HTG
              go_wp2
              go_roundw
              case rel => exact ⟨j + 1, HJ.out, by go_num, by rw [tagM_no HGR.out (HN.out _), HT1.out], by rw [tagM_no HGR.out (HN.out _), HT2.out], HSw.out⟩
              case measure => simp [intOf]; omega
            · have hb3 : (tag == 3) = false := by simp; omega
              by_cases k4 : verb = vb
              · have hb4 : (verb != vb) = false := by simp; omega
                have K4 := Lib.hid k4
                clear k4
                have K3 := Lib.hid (show tag = 1 ∨ tag = 2 by have := HTG.out; omega)
                go_wp2_with fail
                (with_reducible refine (HHX.out _ HSw.out).mono ?_)
                rintro e w4 ⟨rfl, hb⟩
                have HS4 := Lib.hid (HSw.out.trans (hb.mono HSw.out.size))
                have HL4 := Lib.hid (HLB.out.below hb HLB.out.lt)
                clear hb z0 z1 z2 z3 z4 z5 z6 z7 z8 z9 z10 z11 lp x0 x1 x2 x3 x4 hW2 hgq vp v0 v1 v2 v3 v4 y0 y1 y2 y3 y4 y5 y6 y7 y8 y9 y10 y11 yl
                have y0 : w4.cell? ⟨gq, 0, none⟩ = some (.int .i64 tag) := (HL4.out.cell 0).trans rfl
                have y3 : w4.cell? ⟨gq, 3, none⟩ = some (.int .i64 ent) := (HL4.out.cell 3).trans rfl
                have yl := HL4.out.lt
                have SY2 : ∀ e, spk P x.ro vb e ⟨tag, role, verb, ent, grp, line, neg, c0, c1, sc, toS, toL⟩ = (η && decide (ent = e)) := fun e => by rw [HSY.out, decide_eq_true K3.out, decide_eq_true K4.out, Bool.true_and, Bool.true_and]
                have HS2 := Lib.hid SY2
                clear SY2
                cases η
                · have HN := Lib.hid (fun e => (HS2.out e).trans (Bool.false_and _))
                  go_wp2
                  go_roundw
                  case rel => exact ⟨j + 1, HJ.out, by go_num, by rw [tagM_no HGR.out (HN.out _), HT1.out], by rw [tagM_no HGR.out (HN.out _), HT2.out], HS4.out⟩
                  case measure => simp [intOf]; omega
                · by_cases k5 : ent = en
                  · have hb5 : (ent == en) = true := by simp; omega
                    have N1 := Lib.hid (show spk P x.ro vb en ⟨tag, role, verb, ent, grp, line, neg, c0, c1, sc, toS, toL⟩ = true by rw [HS2.out, decide_eq_true k5]; rfl)
                    have N2 := Lib.hid (show spk P x.ro vb (-1) ⟨tag, role, verb, ent, grp, line, neg, c0, c1, sc, toS, toL⟩ = false by rw [HS2.out, decide_eq_false (by have := HK2.out; omega)]; rfl)
                    clear k5
                    obtain ⟨m, hm⟩ : ∃ m, max t1 tag = m := ⟨_, rfl⟩
                    have HM := Lib.hid hm
                    go_wp2
                    go_roundw
                    case rel => exact ⟨j + 1, HJ.out, by go_num, by rw [tagM_yes HGR.out N1.out, HT1.out]; exact congrArg _ HM.out.symm, by rw [tagM_no HGR.out N2.out, HT2.out], HS4.out⟩
                    case measure => simp [intOf]; omega
                  · have hb5 : (ent == en) = false := by simp; omega
                    have N1 := Lib.hid (show spk P x.ro vb en ⟨tag, role, verb, ent, grp, line, neg, c0, c1, sc, toS, toL⟩ = false by rw [HS2.out, decide_eq_false k5]; rfl)
                    by_cases k6 : ent = -1
                    · have hb6 : (ent == -1) = true := by simp; omega
                      have N2 := Lib.hid (show spk P x.ro vb (-1) ⟨tag, role, verb, ent, grp, line, neg, c0, c1, sc, toS, toL⟩ = true by rw [HS2.out, decide_eq_true k6]; rfl)
                      clear k5 k6
                      obtain ⟨m, hm⟩ : ∃ m, max t2 tag = m := ⟨_, rfl⟩
                      have HM := Lib.hid hm
                      go_wp2
                      go_roundw
                      case rel => exact ⟨j + 1, HJ.out, by go_num, by rw [tagM_no HGR.out N1.out, HT1.out], by rw [tagM_yes HGR.out N2.out, HT2.out]; exact congrArg _ HM.out.symm, HS4.out⟩
                      case measure => simp [intOf]; omega
                    · have hb6 : (ent == -1) = false := by simp; omega
                      have N2 := Lib.hid (show spk P x.ro vb (-1) ⟨tag, role, verb, ent, grp, line, neg, c0, c1, sc, toS, toL⟩ = false by rw [HS2.out, decide_eq_false k6]; rfl)
                      clear k5 k6
                      go_wp2
                      go_roundw
                      case rel => exact ⟨j + 1, HJ.out, by go_num, by rw [tagM_no HGR.out N1.out, HT1.out], by rw [tagM_no HGR.out N2.out, HT2.out], HS4.out⟩
                      case measure => simp [intOf]; omega
              · have hb4 : (verb != vb) = true := by simp; omega
                have N1 : ∀ e, spk P x.ro vb e ⟨tag, role, verb, ent, grp, line, neg, c0, c1, sc, toS, toL⟩ = false := fun e => by rw [HSY.out, decide_eq_false k4, Bool.false_and, Bool.and_false]
                have HN := Lib.hid N1
                clear k4 N1
                go_wp2
                go_roundw
                case rel => exact ⟨j + 1, HJ.out, by go_num, by rw [tagM_no HGR.out (HN.out _), HT1.out], by rw [tagM_no HGR.out (HN.out _), HT2.out], HSw.out⟩
                case measure => simp [intOf]; omega
          · have hlt' : ¬ (j : Int) < (nr : Int) := by omega
            obtain rfl : j = nr := by omega
            have hv := HV2.out
            unfold mayL at hv
            have e1 := HT1.out
            have e2 := HT2.out
            rw [← hlen, List.take_length] at e1 e2
            rw [e1, e2] at hv
            by_cases h0 : t1 = 0
            · have h0b : (t1 != 0) = false := by simp; omega
              rw [if_pos h0] at hv
              clear h0
              go_wp2
              go_ret
              exact ⟨by rw [← hv]; simp; exact Bool.eq_iff_iff.2 (by simp), HFr.out⟩
            · have h0b : (t1 != 0) = true := by simp; omega
              rw [if_neg h0] at hv
              clear h0
              go_wp2
              go_ret
              exact ⟨by rw [← hv]; simp; exact Bool.eq_iff_iff.2 (by simp), HFr.out⟩
      · have HAEm := Lib.hid (fun V => HAE.out V false (by rw [← Bool.decide_and, decide_eq_false k2]))
        obtain rfl : q = false := by
          have h := HV.out
          unfold mayB at h
          have e : (decide (0 ≤ en) && decide (en < (P.ents.length : Int))) = false := by rw [HNE.out, ← Bool.decide_and, decide_eq_false k2]
          rw [← h, ← Bool.and_assoc (decide (0 ≤ en)), e]
          simp
        go_wp2_with fail
        (with_reducible refine (HAEm.out _).mono ?_)
        rintro e w3 ⟨rfl, rfl⟩
        go_wp2
        go_ret
        exact ⟨rfl, HF1.out⟩
    · have HAKm := Lib.hid (fun V => HAK.out V false (by rw [← Bool.decide_and, decide_eq_false k1]))
      obtain rfl : q = false := by
        have h := HV.out
        unfold mayB at h
        have e : (decide (0 ≤ k) && decide (k < (P.who.length : Int))) = false := by rw [HNH.out, ← Bool.decide_and, decide_eq_false k1]
        rw [← h, ← Bool.and_assoc (decide (0 ≤ k)), e]
        simp
      go_wp2_with fail
      (with_reducible refine (HAKm.out _).mono ?_)
      rintro e w2 ⟨rfl, rfl⟩
      go_wp2
      go_ret
      exact ⟨rfl, HF1.out⟩
end Go.Proofs.Ytakofbkbbmpfeaa

/- rule.Label, Sees, Releases. -/
import Derived.Test.YtakofbkbbmpfeaaRulD
namespace Go.Proofs.Ytakofbkbbmpfeaa
open Go.RowKit
set_option maxRecDepth 100000 in
set_option maxHeartbeats 3200000 in
theorem ruLabel_c (s : Slp) (P : PolP) (w : World) (ne ng nh nu nr : Nat) (h : PolRd w w.heap.size s P) (hwd : PolWd P) (hne : P.ents.length = ne) (hng : P.grp.length = ng) (hnh : P.who.length = nh) (hnu : P.up.length = nu) (hnr : P.rules.length = nr) (β : Bool) (hβ : β = true ↔ RightPol P) (k : Int) (n : Nat) (v : Int) (hv : entLab β P k = (n, v)) :
    Calls Try.prog 12 #[.agg #[.slice s.Ae ne s.ce, .slice s.Ag ng s.cg, .slice s.Ah nh s.ch, .slice s.Au nu s.cu, .slice s.Ar nr s.cr], .int .i64 k] w (RetL w n v) := by
  obtain ⟨gp, hgp⟩ : ∃ g, w.heap.size = g := ⟨_, rfl⟩
  obtain ⟨W, hW⟩ : ∃ V, (w.alloc (.cells #[.slice s.Ae ne s.ce, .slice s.Ag ng s.cg, .slice s.Ah nh s.ch, .slice s.Au nu s.cu, .slice s.Ar nr s.cr] 28)).alloc (.cells #[.int .u64 0, .int .i64 0] 33) = V := ⟨_, rfl⟩
  have HBW := Lib.hid (show Below w.heap.size w W from by rw [← hW]; exact bel_alloc (bel_alloc (Below.refl _ _) _) _)
  have HPB := Lib.hid (show PolBl W gp s ne ng nh nu nr from by rw [← hW, ← hgp]; exact (Blk.new _ _ _).alloc _)
  have HLB := Lib.hid (show Blk W (gp + 1) 33 #[.int .u64 0, .int .i64 0] from by rw [← hW, ← hgp]; have h := Blk.new (w.alloc (.cells #[.slice s.Ae ne s.ce, .slice s.Ag ng s.cg, .slice s.Ah nh s.ch, .slice s.Au nu s.cu, .slice s.Ar nr s.cr] 28)) 33 #[.int .u64 0, .int .i64 0]; simpa using h)
  have HRD := Lib.hid (h.below HBW.out)
  have HRP := Lib.hid (ruRight_c s P W ne ng nh nu nr ((h.below HBW.out).more HBW.out.size) hwd hne hng hnh hnu hnr β hβ)
  have HV := Lib.hid hv
  have hle := hwd.2.2.2.1
  rw [hne] at hle
  have HNE := Lib.hid hne
  have HW := Lib.hid hW
  have HGP := Lib.hid hgp
  obtain ⟨lp, x0, x1, x2, x3, x4⟩ := HPB.out.cells
  have HAK := Lib.hid (fun (V : World) (b : Bool) (e : (decide (0 ≤ k) && decide (k < (ne : Int))) = b) => among_c k (ne : Int) b V e)
  clear h hwd hng hnh hnu hnr hβ hv hne hW hgp
  go_enter Try.func12, Try.ntmps12
  go_wp2_with fail
  rw [HW.out, HGP.out]
  (with_reducible refine HRP.out.mono ?_)
  rintro e w1 ⟨rfl, hb⟩
  have HB1 := Lib.hid (HBW.out.trans (hb.mono HBW.out.size))
  have HP1 := Lib.hid (show PolBl w1 gp s ne ng nh nu nr from Blk.below HPB.out hb (Blk.lt HPB.out))
  have HL1 := Lib.hid (HLB.out.below hb HLB.out.lt)
  have HR1 := Lib.hid (HRD.out.below (hb.mono HBW.out.size))
  clear hb lp x0 x1 x2 x3 x4 HPB HLB HRD HRP HW
  obtain ⟨lp, x0, x1, x2, x3, x4⟩ := HP1.out.cells
  have y0 : w1.cell? ⟨gp + 1, 0, none⟩ = some (.int .u64 0) := (HL1.out.cell 0).trans rfl
  have y1 : w1.cell? ⟨gp + 1, 1, none⟩ = some (.int .i64 0) := (HL1.out.cell 1).trans rfl
  have yl := HL1.out.lt
  have f0 := HL1.out.frozen 0
  have f1 := HL1.out.frozen 1
  have hgw : w.heap.size ≤ gp + 1 := by have := HGP.out; omega
  cases β
  · skip
    obtain ⟨rfl, rfl⟩ : n = 0 ∧ v = 0 := by
      have h := HV.out
      unfold entLab at h
      rw [if_neg (by rw [HNE.out]; rintro ⟨h1, h2, h3⟩; first | omega | cases h1)] at h
      injection h with h1 h2
      exact ⟨h1.symm, h2.symm⟩
    go_wp2
    obtain ⟨W5, hW5⟩ : ∃ V, (w1.setCell ⟨gp + 1, 0, none⟩ (.int .u64 0)).setCell ⟨gp + 1, 1, none⟩ (.int .i64 0) = V := ⟨_, rfl⟩
    have hQ5 : Blk W5 (gp + 1) 33 #[.int .u64 0, .int .i64 0] := by rw [← hW5]; have h := (HL1.out.set_ 0 (.int .u64 0)).set_ 1 (.int .i64 0); simpa using h
    have hB5 : Below w.heap.size w W5 := by rw [← hW5]; exact (HB1.out.setCell (p := ⟨gp + 1, 0, none⟩) hgw _).setCell (p := ⟨gp + 1, 1, none⟩) hgw _
    rw [hW5]
    have q0 : W5.cell? ⟨gp + 1, 0, none⟩ = some (.int .u64 0) := (hQ5.cell 0).trans rfl
    have q1 : W5.cell? ⟨gp + 1, 1, none⟩ = some (.int .i64 0) := (hQ5.cell 1).trans rfl
    exact bodyPost_ret (v := .agg #[.int .u64 0, .int .i64 0]) (by simp [results, Try.results12, go_sem, q0, q1]) rfl ⟨rfl, hB5⟩
  · by_cases k12 : 0 ≤ k ∧ k < (ne : Int)
    · obtain ⟨k1, k2⟩ := k12
      have HAKm := Lib.hid (fun V => HAK.out V true (by rw [decide_eq_true k1, decide_eq_true k2]; rfl))
      obtain ⟨j, rfl⟩ : ∃ j : Nat, k = (j : Int) := ⟨k.toNat, by omega⟩
      obtain ⟨e, he⟩ := get_at (l := P.ents) (k := j) (by rw [HNE.out]; omega)
      obtain ⟨g, o, hA, hg, c0, _⟩ := rd_ent HR1.out.1 (by rw [HNE.out]; omega) he
      obtain ⟨lv, sc, pa, sh⟩ := e
      dsimp only at c0
      obtain ⟨hX, hY⟩ : ofSet (j : Int) = n ∧ min (max lv 0) 3 = v := by
        have h := HV.out
        unfold entLab at h
        rw [if_pos ⟨rfl, k1, by rw [HNE.out]; exact k2⟩, Int.toNat_natCast, he] at h
        injection h with h1 h2
        exact ⟨h1, h2⟩
      have RO := Lib.hid (fun V : World => by have h := labOf_c (j : Int) lv V; rw [hX, hY] at h; exact h)
      rw [hA] at x0
      clear hA hX hY HV
      go_wp2_with fail
      (with_reducible refine (HAKm.out _).mono ?_)
      rintro e w3 ⟨rfl, rfl⟩
      go_wp2_with fail
      (with_reducible refine (RO.out _).mono ?_)
      rintro e w2 ⟨rfl, hb⟩
      have HB2 := Lib.hid (HB1.out.trans (hb.mono HB1.out.size))
      have HL2 := Lib.hid (HL1.out.below hb HL1.out.lt)
      clear hb y0 y1 yl f0 f1
      have y0 : w2.cell? ⟨gp + 1, 0, none⟩ = some (.int .u64 0) := (HL2.out.cell 0).trans rfl
      have y1 : w2.cell? ⟨gp + 1, 1, none⟩ = some (.int .i64 0) := (HL2.out.cell 1).trans rfl
      have yl := HL2.out.lt
      have f0 := HL2.out.frozen 0
      have f1 := HL2.out.frozen 1
      go_wp2
      obtain ⟨W5, hW5⟩ : ∃ V, (w2.setCell ⟨gp + 1, 0, none⟩ (.int .u64 (n : Int))).setCell ⟨gp + 1, 1, none⟩ (.int .i64 v) = V := ⟨_, rfl⟩
      have hQ5 : Blk W5 (gp + 1) 33 #[.int .u64 (n : Int), .int .i64 v] := by rw [← hW5]; have h := (HL2.out.set_ 0 (.int .u64 (n : Int))).set_ 1 (.int .i64 v); simpa using h
      have hB5 : Below w.heap.size w W5 := by rw [← hW5]; exact (HB2.out.setCell (p := ⟨gp + 1, 0, none⟩) hgw _).setCell (p := ⟨gp + 1, 1, none⟩) hgw _
      rw [hW5]
      have q0 : W5.cell? ⟨gp + 1, 0, none⟩ = some (.int .u64 (n : Int)) := (hQ5.cell 0).trans rfl
      have q1 : W5.cell? ⟨gp + 1, 1, none⟩ = some (.int .i64 v) := (hQ5.cell 1).trans rfl
      exact bodyPost_ret (v := .agg #[.int .u64 (n : Int), .int .i64 v]) (by simp [results, Try.results12, go_sem, q0, q1]) rfl ⟨rfl, hB5⟩
    · have HAKm := Lib.hid (fun V => HAK.out V false (by rw [← Bool.decide_and, decide_eq_false k12]))
      obtain ⟨rfl, rfl⟩ : n = 0 ∧ v = 0 := by
        have h := HV.out
        unfold entLab at h
        rw [if_neg (by rw [HNE.out]; rintro ⟨h1, h2, h3⟩; exact k12 ⟨h2, h3⟩)] at h
        injection h with h1 h2
        exact ⟨h1.symm, h2.symm⟩
      go_wp2_with fail
      (with_reducible refine (HAKm.out _).mono ?_)
      rintro e w3 ⟨rfl, rfl⟩
      go_wp2
      obtain ⟨W5, hW5⟩ : ∃ V, (w1.setCell ⟨gp + 1, 0, none⟩ (.int .u64 0)).setCell ⟨gp + 1, 1, none⟩ (.int .i64 0) = V := ⟨_, rfl⟩
      have hQ5 : Blk W5 (gp + 1) 33 #[.int .u64 0, .int .i64 0] := by rw [← hW5]; have h := (HL1.out.set_ 0 (.int .u64 0)).set_ 1 (.int .i64 0); simpa using h
      have hB5 : Below w.heap.size w W5 := by rw [← hW5]; exact (HB1.out.setCell (p := ⟨gp + 1, 0, none⟩) hgw _).setCell (p := ⟨gp + 1, 1, none⟩) hgw _
      rw [hW5]
      have q0 : W5.cell? ⟨gp + 1, 0, none⟩ = some (.int .u64 0) := (hQ5.cell 0).trans rfl
      have q1 : W5.cell? ⟨gp + 1, 1, none⟩ = some (.int .i64 0) := (hQ5.cell 1).trans rfl
      exact bodyPost_ret (v := .agg #[.int .u64 0, .int .i64 0]) (by simp [results, Try.results12, go_sem, q0, q1]) rfl ⟨rfl, hB5⟩
set_option maxRecDepth 100000 in
set_option maxHeartbeats 3200000 in
theorem ruSees_c (s : Slp) (P : PolP) (w : World) (ne ng nh nu nr : Nat) (h : PolRd w w.heap.size s P) (hwd : PolWd P) (hne : P.ents.length = ne) (hng : P.grp.length = ng) (hnh : P.who.length = nh) (hnu : P.up.length = nu) (hnr : P.rules.length = nr) (β : Bool) (hβ : β = true ↔ RightPol P) (k : Int) (a : Nat) (u : Int) (ha : a < 18446744073709551616) (q : Bool) (hq : seesB β P k a u = q) :
    Calls Try.prog 16 #[.agg #[.slice s.Ae ne s.ce, .slice s.Ag ng s.cg, .slice s.Ah nh s.ch, .slice s.Au nu s.cu, .slice s.Ar nr s.cr], .int .i64 k, .agg #[.int .u64 (a : Int), .int .i64 u]] w (RetB w q) := by
  obtain ⟨gp, hgp⟩ : ∃ g, w.heap.size = g := ⟨_, rfl⟩
  obtain ⟨W, hW⟩ : ∃ V, (w.alloc (.cells #[.slice s.Ae ne s.ce, .slice s.Ag ng s.cg, .slice s.Ah nh s.ch, .slice s.Au nu s.cu, .slice s.Ar nr s.cr] 28)).alloc (.cells #[.int .u64 (a : Int), .int .i64 u] 33) = V := ⟨_, rfl⟩
  have HBW := Lib.hid (show Below w.heap.size w W from by rw [← hW]; exact bel_alloc (bel_alloc (Below.refl _ _) _) _)
  have HPB := Lib.hid (show PolBl W gp s ne ng nh nu nr from by rw [← hW, ← hgp]; exact (Blk.new _ _ _).alloc _)
  have HLB := Lib.hid (show Blk W (gp + 1) 33 #[.int .u64 (a : Int), .int .i64 u] from by rw [← hW, ← hgp]; have h := Blk.new (w.alloc (.cells #[.slice s.Ae ne s.ce, .slice s.Ag ng s.cg, .slice s.Ah nh s.ch, .slice s.Au nu s.cu, .slice s.Ar nr s.cr] 28)) 33 #[.int .u64 (a : Int), .int .i64 u]; simpa using h)
  have HRD := Lib.hid (h.below HBW.out)
  have HRP := Lib.hid (fun (V : World) (hb : Below W.heap.size W V) => ruRight_c s P V ne ng nh nu nr (((h.below HBW.out).below (hb.mono HBW.out.size)).more (Nat.le_trans HBW.out.size hb.size)) hwd hne hng hnh hnu hnr β hβ)
  have HV := Lib.hid hq
  have HWH := Lib.hid hwd.2.1
  have hlh := hwd.2.2.2.2.2.1
  rw [hnh] at hlh
  have HNH := Lib.hid hnh
  have HW := Lib.hid hW
  have HGP := Lib.hid hgp
  clear h hwd hne hng hnh hnu hnr hβ hq hW hgp
  have HAK := Lib.hid (fun (V : World) (b : Bool) (e : (decide (0 ≤ k) && decide (k < (nh : Int))) = b) => among_c k (nh : Int) b V e)
  go_enter Try.func16, Try.ntmps16
  go_wp2_with fail
  rw [HW.out, HGP.out]
  cases β
  · obtain rfl : q = false := HV.out.symm
    refine wp_region_det (S := fun V => Below W.heap.size W V) (by kernel_rfl) (Below.refl W.heap.size W).drew ?_
    refine det_take (v := ?_) (i := 0) (fuel := 19) (by simp; rfl) (by kernel_rfl) (by kernel_rfl) (by kernel_rfl) (Or.inl ⟨by rfl, fun w' hS => Or.inl ⟨w', ?_, hS⟩⟩) ?_
    rotate_left
    · obtain ⟨lp, x0, x1, x2, x3, x4⟩ := PolBl.cells (Blk.below HPB.out hS (Blk.lt HPB.out))
      go_simp
      all_goals with_reducible rfl
    simp only [Act.put, List.setIfInBounds_toArray, List.set_cons_zero, List.set_cons_succ]
    refine det_take (v := ?_) (i := 1) (fuel := 18) (by simp; rfl) (by kernel_rfl) (by kernel_rfl) (by kernel_rfl) (Or.inl ⟨by rfl, fun w' hS => Or.inr ⟨8, #[.agg #[.slice s.Ae ne s.ce, .slice s.Ag ng s.cg, .slice s.Ah nh s.ch, .slice s.Au nu s.cu, .slice s.Ar nr s.cr]], w', ?_, ?_⟩⟩) ?_
    rotate_left
    · go_simp
      all_goals with_reducible rfl
    · exact (HRP.out w' hS).mono fun e w2 h => ⟨by rw [h.1], hS.trans (h.2.mono hS.size)⟩
    simp only [Act.put, List.setIfInBounds_toArray, List.set_cons_zero, List.set_cons_succ]
    refine det_take (v := ?_) (i := 2) (fuel := 17) (by simp; rfl) (by kernel_rfl) (by kernel_rfl) (by kernel_rfl) (Or.inl ⟨by rfl, fun w' hS => Or.inl ⟨w', ?_, hS⟩⟩) ?_
    rotate_left
    · go_simp
      all_goals with_reducible rfl
    simp only [Act.put, List.setIfInBounds_toArray, List.set_cons_zero, List.set_cons_succ]
    refine det_take (v := undef) (i := 3) (fuel := 16) (by simp; rfl) (by kernel_rfl) (by kernel_rfl) (by kernel_rfl) (Or.inr ⟨by rfl, by rfl⟩) ?_
    simp only [Act.put, List.setIfInBounds_toArray, List.set_cons_zero, List.set_cons_succ]
    refine det_take (v := undef) (i := 4) (fuel := 15) (by simp; rfl) (by kernel_rfl) (by kernel_rfl) (by kernel_rfl) (Or.inr ⟨by rfl, by rfl⟩) ?_
    simp only [Act.put, List.setIfInBounds_toArray, List.set_cons_zero, List.set_cons_succ]
    refine det_take (v := undef) (i := 5) (fuel := 14) (by simp; rfl) (by kernel_rfl) (by kernel_rfl) (by kernel_rfl) (Or.inr ⟨by rfl, by rfl⟩) ?_
    simp only [Act.put, List.setIfInBounds_toArray, List.set_cons_zero, List.set_cons_succ]
    refine det_take (v := undef) (i := 6) (fuel := 13) (by simp; rfl) (by kernel_rfl) (by kernel_rfl) (by kernel_rfl) (Or.inr ⟨by rfl, by rfl⟩) ?_
    simp only [Act.put, List.setIfInBounds_toArray, List.set_cons_zero, List.set_cons_succ]
    refine det_take (v := undef) (i := 7) (fuel := 12) (by simp; rfl) (by kernel_rfl) (by kernel_rfl) (by kernel_rfl) (Or.inr ⟨by rfl, by rfl⟩) ?_
    simp only [Act.put, List.setIfInBounds_toArray, List.set_cons_zero, List.set_cons_succ]
    refine det_take (v := ?_) (i := 8) (fuel := 11) (by simp; rfl) (by kernel_rfl) (by kernel_rfl) (by kernel_rfl) (Or.inl ⟨by rfl, fun w' hS => Or.inl ⟨w', ?_, hS⟩⟩) ?_
    rotate_left
    · go_simp
      all_goals with_reducible rfl
    simp only [Act.put, List.setIfInBounds_toArray, List.set_cons_zero, List.set_cons_succ]
    refine det_take (v := ?_) (i := 9) (fuel := 10) (by simp; rfl) (by kernel_rfl) (by kernel_rfl) (by kernel_rfl) (Or.inl ⟨by rfl, fun w' hS => Or.inl ⟨w', ?_, hS⟩⟩) ?_
    rotate_left
    · go_simp
      all_goals with_reducible rfl
    simp only [Act.put, List.setIfInBounds_toArray, List.set_cons_zero, List.set_cons_succ]
    refine det_take (v := undef) (i := 10) (fuel := 9) (by simp; rfl) (by kernel_rfl) (by kernel_rfl) (by kernel_rfl) (Or.inr ⟨by rfl, by rfl⟩) ?_
    simp only [Act.put, List.setIfInBounds_toArray, List.set_cons_zero, List.set_cons_succ]
    refine det_take (v := undef) (i := 11) (fuel := 8) (by simp; rfl) (by kernel_rfl) (by kernel_rfl) (by kernel_rfl) (Or.inr ⟨by rfl, by rfl⟩) ?_
    simp only [Act.put, List.setIfInBounds_toArray, List.set_cons_zero, List.set_cons_succ]
    refine det_take (v := undef) (i := 12) (fuel := 7) (by simp; rfl) (by kernel_rfl) (by kernel_rfl) (by kernel_rfl) (Or.inr ⟨by rfl, by rfl⟩) ?_
    simp only [Act.put, List.setIfInBounds_toArray, List.set_cons_zero, List.set_cons_succ]
    refine det_take (v := undef) (i := 13) (fuel := 6) (by simp; rfl) (by kernel_rfl) (by kernel_rfl) (by kernel_rfl) (Or.inr ⟨by rfl, by rfl⟩) ?_
    simp only [Act.put, List.setIfInBounds_toArray, List.set_cons_zero, List.set_cons_succ]
    refine det_take (v := undef) (i := 14) (fuel := 5) (by simp; rfl) (by kernel_rfl) (by kernel_rfl) (by kernel_rfl) (Or.inr ⟨by rfl, by rfl⟩) ?_
    simp only [Act.put, List.setIfInBounds_toArray, List.set_cons_zero, List.set_cons_succ]
    refine det_take (v := undef) (i := 15) (fuel := 4) (by simp; rfl) (by kernel_rfl) (by kernel_rfl) (by kernel_rfl) (Or.inr ⟨by rfl, by rfl⟩) ?_
    simp only [Act.put, List.setIfInBounds_toArray, List.set_cons_zero, List.set_cons_succ]
    refine det_take (v := undef) (i := 16) (fuel := 3) (by simp; rfl) (by kernel_rfl) (by kernel_rfl) (by kernel_rfl) (Or.inr ⟨by rfl, by rfl⟩) ?_
    simp only [Act.put, List.setIfInBounds_toArray, List.set_cons_zero, List.set_cons_succ]
    refine det_take (v := undef) (i := 17) (fuel := 2) (by simp; rfl) (by kernel_rfl) (by kernel_rfl) (by kernel_rfl) (Or.inr ⟨by rfl, by rfl⟩) ?_
    simp only [Act.put, List.setIfInBounds_toArray, List.set_cons_zero, List.set_cons_succ]
    refine det_take (v := ?_) (i := 18) (fuel := 1) (by simp; rfl) (by kernel_rfl) (by kernel_rfl) (by kernel_rfl) (Or.inl ⟨by rfl, fun w' hS => Or.inl ⟨w', ?_, hS⟩⟩) ?_
    rotate_left
    · go_simp
      all_goals with_reducible rfl
    simp only [Act.put, List.setIfInBounds_toArray, List.set_cons_zero, List.set_cons_succ]
    refine det_take (v := ?_) (i := 19) (fuel := 0) (by simp; rfl) (by kernel_rfl) (by kernel_rfl) (by kernel_rfl) (Or.inl ⟨by rfl, fun w' hS => Or.inl ⟨w', ?_, hS⟩⟩) ?_
    rotate_left
    · go_simp
      all_goals with_reducible rfl
    simp only [Act.put, List.setIfInBounds_toArray, List.set_cons_zero, List.set_cons_succ]
    refine det_done (by kernel_rfl) (fun V hV => ?_) _
    go_wp2
    go_ret
    exact ⟨rfl, HBW.out.trans (hV.mono HBW.out.size)⟩
  · by_cases k12 : 0 ≤ k ∧ k < (nh : Int)
    · obtain ⟨k1, k2⟩ := k12
      have HAKm := Lib.hid (fun V => HAK.out V true (by rw [decide_eq_true k1, decide_eq_true k2]; rfl))
      obtain ⟨j, rfl⟩ : ∃ j : Nat, k = (j : Int) := ⟨k.toNat, by omega⟩
      obtain ⟨x, hx⟩ := get_at (l := P.who) (k := j) (by rw [HNH.out]; omega)
      obtain ⟨g, o, hA, hg, c0, c1, _⟩ := rd_who HRD.out.2.2.1 (by rw [HNH.out]; omega) hx
      have hst := (HWH.out _ (List.mem_of_getElem? hx)).1
      obtain ⟨st, lv, ro⟩ := x
      dsimp only at c0 c1 hst
      have hq : belowB a u st lv = q := by
        have h := HV.out
        unfold seesB whoAt at h
        rw [decide_eq_true k1, decide_eq_true (show (j : Int) < (P.who.length : Int) by rw [HNH.out]; exact k2), Int.toNat_natCast, hx] at h
        simpa using h
      have HBe := Lib.hid (fun V : World => by have h := below_c a st (a : Int) (st : Int) u lv V rfl rfl ha hst; rw [hq] at h; exact h)
      have HA := Lib.hid hA
      have hgW : g < W.heap.size := by have := HBW.out.size; omega
      have HC0 := Lib.hid c0
      have HC1 := Lib.hid c1
      clear hA c0 c1 hq HV
      refine wp_region_det (S := fun V => Below W.heap.size W V) (by kernel_rfl) (Below.refl W.heap.size W).drew ?_
      refine det_take (v := ?_) (i := 0) (fuel := 19) (by simp; rfl) (by kernel_rfl) (by kernel_rfl) (by kernel_rfl) (Or.inl ⟨by rfl, fun w' hS => Or.inl ⟨w', ?_, hS⟩⟩) ?_
      rotate_left
      · obtain ⟨lp, x0, x1, x2, x3, x4⟩ := PolBl.cells (Blk.below HPB.out hS (Blk.lt HPB.out))
        go_simp
        all_goals with_reducible rfl
      simp only [Act.put, List.setIfInBounds_toArray, List.set_cons_zero, List.set_cons_succ]
      refine det_take (v := ?_) (i := 1) (fuel := 18) (by simp; rfl) (by kernel_rfl) (by kernel_rfl) (by kernel_rfl) (Or.inl ⟨by rfl, fun w' hS => Or.inr ⟨8, #[.agg #[.slice s.Ae ne s.ce, .slice s.Ag ng s.cg, .slice s.Ah nh s.ch, .slice s.Au nu s.cu, .slice s.Ar nr s.cr]], w', ?_, ?_⟩⟩) ?_
      rotate_left
      · go_simp
        all_goals with_reducible rfl
      · exact (HRP.out w' hS).mono fun e w2 h => ⟨by rw [h.1], hS.trans (h.2.mono hS.size)⟩
      simp only [Act.put, List.setIfInBounds_toArray, List.set_cons_zero, List.set_cons_succ]
      refine det_take (v := ?_) (i := 2) (fuel := 17) (by simp; rfl) (by kernel_rfl) (by kernel_rfl) (by kernel_rfl) (Or.inl ⟨by rfl, fun w' hS => Or.inl ⟨w', ?_, hS⟩⟩) ?_
      rotate_left
      · go_simp
        all_goals with_reducible rfl
      simp only [Act.put, List.setIfInBounds_toArray, List.set_cons_zero, List.set_cons_succ]
      refine det_take (v := ?_) (i := 3) (fuel := 16) (by simp; rfl) (by kernel_rfl) (by kernel_rfl) (by kernel_rfl) (Or.inl ⟨by rfl, fun w' hS => Or.inl ⟨w', ?_, hS⟩⟩) ?_
      rotate_left
      · go_simp
        all_goals with_reducible rfl
      simp only [Act.put, List.setIfInBounds_toArray, List.set_cons_zero, List.set_cons_succ]
      refine det_take (v := ?_) (i := 4) (fuel := 15) (by simp; rfl) (by kernel_rfl) (by kernel_rfl) (by kernel_rfl) (Or.inl ⟨by rfl, fun w' hS => Or.inl ⟨w', ?_, hS⟩⟩) ?_
      rotate_left
      · go_simp
        all_goals with_reducible rfl
      simp only [Act.put, List.setIfInBounds_toArray, List.set_cons_zero, List.set_cons_succ]
      refine det_take (v := ?_) (i := 5) (fuel := 14) (by simp; rfl) (by kernel_rfl) (by kernel_rfl) (by kernel_rfl) (Or.inl ⟨by rfl, fun w' hS => Or.inl ⟨w', ?_, hS⟩⟩) ?_
      rotate_left
      · obtain ⟨lp, x0, x1, x2, x3, x4⟩ := PolBl.cells (Blk.below HPB.out hS (Blk.lt HPB.out))
        go_simp
        all_goals with_reducible rfl
      simp only [Act.put, List.setIfInBounds_toArray, List.set_cons_zero, List.set_cons_succ]
      refine det_take (v := ?_) (i := 6) (fuel := 13) (by simp; rfl) (by kernel_rfl) (by kernel_rfl) (by kernel_rfl) (Or.inl ⟨by rfl, fun w' hS => Or.inl ⟨w', ?_, hS⟩⟩) ?_
      rotate_left
      · go_simp
        all_goals with_reducible rfl
      simp only [Act.put, List.setIfInBounds_toArray, List.set_cons_zero, List.set_cons_succ]
      refine det_take (v := ?_) (i := 7) (fuel := 12) (by simp; rfl) (by kernel_rfl) (by kernel_rfl) (by kernel_rfl) (Or.inl ⟨by rfl, fun w' hS => Or.inr ⟨31, #[.int .i64 (j : Int), .int .i64 nh], w', ?_, ?_⟩⟩) ?_
      rotate_left
      · go_simp
        all_goals with_reducible rfl
      · exact (HAKm.out w').mono fun e w2 h => ⟨by rw [h.1], h.2 ▸ hS⟩
      simp only [Act.put, List.setIfInBounds_toArray, List.set_cons_zero, List.set_cons_succ]
      refine det_take (v := ?_) (i := 8) (fuel := 11) (by simp; rfl) (by kernel_rfl) (by kernel_rfl) (by kernel_rfl) (Or.inl ⟨by rfl, fun w' hS => Or.inl ⟨w', ?_, hS⟩⟩) ?_
      rotate_left
      · go_simp
        all_goals with_reducible rfl
      simp only [Act.put, List.setIfInBounds_toArray, List.set_cons_zero, List.set_cons_succ]
      refine det_take (v := ?_) (i := 9) (fuel := 10) (by simp; rfl) (by kernel_rfl) (by kernel_rfl) (by kernel_rfl) (Or.inl ⟨by rfl, fun w' hS => Or.inl ⟨w', ?_, hS⟩⟩) ?_
      rotate_left
      · go_simp
        all_goals with_reducible rfl
      simp only [Act.put, List.setIfInBounds_toArray, List.set_cons_zero, List.set_cons_succ]
      refine det_take (v := ?_) (i := 10) (fuel := 9) (by simp; rfl) (by kernel_rfl) (by kernel_rfl) (by kernel_rfl) (Or.inl ⟨by rfl, fun w' hS => Or.inl ⟨w', ?_, hS⟩⟩) ?_
      rotate_left
      · have z0 : w'.cell? ⟨gp + 1, 0, none⟩ = some (.int .u64 (a : Int)) := ((HLB.out.below hS HLB.out.lt).cell 0).trans rfl
        have z1 : w'.cell? ⟨gp + 1, 1, none⟩ = some (.int .i64 u) := ((HLB.out.below hS HLB.out.lt).cell 1).trans rfl
        have zl := (HLB.out.below hS HLB.out.lt).lt
        go_simp
        all_goals with_reducible rfl
      simp only [Act.put, List.setIfInBounds_toArray, List.set_cons_zero, List.set_cons_succ]
      refine det_take (v := ?_) (i := 11) (fuel := 8) (by simp; rfl) (by kernel_rfl) (by kernel_rfl) (by kernel_rfl) (Or.inl ⟨by rfl, fun w' hS => Or.inl ⟨w', ?_, hS⟩⟩) ?_
      rotate_left
      · go_simp
        all_goals with_reducible rfl
      simp only [Act.put, List.setIfInBounds_toArray, List.set_cons_zero, List.set_cons_succ]
      refine det_take (v := ?_) (i := 12) (fuel := 7) (by simp; rfl) (by kernel_rfl) (by kernel_rfl) (by kernel_rfl) (Or.inl ⟨by rfl, fun w' hS => Or.inl ⟨w', ?_, hS⟩⟩) ?_
      rotate_left
      · obtain ⟨lp, x0, x1, x2, x3, x4⟩ := PolBl.cells (Blk.below HPB.out hS (Blk.lt HPB.out))
        rw [HA.out] at x2
        go_simp
        all_goals with_reducible rfl
      simp only [Act.put, List.setIfInBounds_toArray, List.set_cons_zero, List.set_cons_succ]
      refine det_take (v := ?_) (i := 13) (fuel := 6) (by simp; rfl) (by kernel_rfl) (by kernel_rfl) (by kernel_rfl) (Or.inl ⟨by rfl, fun w' hS => Or.inl ⟨w', ?_, hS⟩⟩) ?_
      rotate_left
      · go_simp
        all_goals with_reducible rfl
      simp only [Act.put, List.setIfInBounds_toArray, List.set_cons_zero, List.set_cons_succ]
      refine det_take (v := ?_) (i := 14) (fuel := 5) (by simp; rfl) (by kernel_rfl) (by kernel_rfl) (by kernel_rfl) (Or.inl ⟨by rfl, fun w' hS => Or.inl ⟨w', ?_, hS⟩⟩) ?_
      rotate_left
      · go_simp
        all_goals with_reducible rfl
      simp only [Act.put, List.setIfInBounds_toArray, List.set_cons_zero, List.set_cons_succ]
      refine det_take (v := ?_) (i := 15) (fuel := 4) (by simp; rfl) (by kernel_rfl) (by kernel_rfl) (by kernel_rfl) (Or.inl ⟨by rfl, fun w' hS => Or.inl ⟨w', ?_, hS⟩⟩) ?_
      rotate_left
      · go_simp
        all_goals with_reducible rfl
      simp only [Act.put, List.setIfInBounds_toArray, List.set_cons_zero, List.set_cons_succ]
      refine det_take (v := ?_) (i := 16) (fuel := 3) (by simp; rfl) (by kernel_rfl) (by kernel_rfl) (by kernel_rfl) (Or.inl ⟨by rfl, fun w' hS => Or.inl ⟨w', ?_, hS⟩⟩) ?_
      rotate_left
      · have z0 : w'.cell? ⟨g, o + j * 3, none⟩ = some (.int .u64 (st : Int)) := (hS.cell (p := ⟨g, o + j * 3, none⟩) hgW).trans HC0.out
        have z1 : w'.cell? ⟨g, o + j * 3 + 1, none⟩ = some (.int .i64 lv) := (hS.cell (p := ⟨g, o + j * 3 + 1, none⟩) hgW).trans HC1.out
        go_simp
        all_goals with_reducible rfl
      simp only [Act.put, List.setIfInBounds_toArray, List.set_cons_zero, List.set_cons_succ]
      refine det_take (v := ?_) (i := 17) (fuel := 2) (by simp; rfl) (by kernel_rfl) (by kernel_rfl) (by kernel_rfl) (Or.inl ⟨by rfl, fun w' hS => Or.inr ⟨40, #[.agg #[.int .u64 (a : Int), .int .i64 u], .agg #[.int .u64 (st : Int), .int .i64 lv]], w', ?_, ?_⟩⟩) ?_
      rotate_left
      · go_simp
        all_goals with_reducible rfl
      · exact (HBe.out w').mono fun e w2 h => ⟨by rw [h.1], hS.trans (h.2.mono hS.size)⟩
      simp only [Act.put, List.setIfInBounds_toArray, List.set_cons_zero, List.set_cons_succ]
      refine det_take (v := ?_) (i := 18) (fuel := 1) (by simp; rfl) (by kernel_rfl) (by kernel_rfl) (by kernel_rfl) (Or.inl ⟨by rfl, fun w' hS => Or.inl ⟨w', ?_, hS⟩⟩) ?_
      rotate_left
      · go_simp
        all_goals with_reducible rfl
      simp only [Act.put, List.setIfInBounds_toArray, List.set_cons_zero, List.set_cons_succ]
      refine det_take (v := ?_) (i := 19) (fuel := 0) (by simp; rfl) (by kernel_rfl) (by kernel_rfl) (by kernel_rfl) (Or.inl ⟨by rfl, fun w' hS => Or.inl ⟨w', ?_, hS⟩⟩) ?_
      rotate_left
      · go_simp
        all_goals with_reducible rfl
      simp only [Act.put, List.setIfInBounds_toArray, List.set_cons_zero, List.set_cons_succ]
      refine det_done (by kernel_rfl) (fun V hV => ?_) _
      go_wp2
      go_ret
      exact ⟨rfl, HBW.out.trans (hV.mono HBW.out.size)⟩
    · have HAKm := Lib.hid (fun V => HAK.out V false (by rw [← Bool.decide_and, decide_eq_false k12]))
      obtain rfl : q = false := by
        have h := HV.out
        unfold seesB at h
        have e : (decide (0 ≤ k) && decide (k < (P.who.length : Int))) = false := by rw [HNH.out, ← Bool.decide_and, decide_eq_false k12]
        rw [← h, ← Bool.and_assoc (decide (0 ≤ k)), e]
        simp
      refine wp_region_det (S := fun V => Below W.heap.size W V) (by kernel_rfl) (Below.refl W.heap.size W).drew ?_
      refine det_take (v := ?_) (i := 0) (fuel := 19) (by simp; rfl) (by kernel_rfl) (by kernel_rfl) (by kernel_rfl) (Or.inl ⟨by rfl, fun w' hS => Or.inl ⟨w', ?_, hS⟩⟩) ?_
      rotate_left
      · obtain ⟨lp, x0, x1, x2, x3, x4⟩ := PolBl.cells (Blk.below HPB.out hS (Blk.lt HPB.out))
        go_simp
        all_goals with_reducible rfl
      simp only [Act.put, List.setIfInBounds_toArray, List.set_cons_zero, List.set_cons_succ]
      refine det_take (v := ?_) (i := 1) (fuel := 18) (by simp; rfl) (by kernel_rfl) (by kernel_rfl) (by kernel_rfl) (Or.inl ⟨by rfl, fun w' hS => Or.inr ⟨8, #[.agg #[.slice s.Ae ne s.ce, .slice s.Ag ng s.cg, .slice s.Ah nh s.ch, .slice s.Au nu s.cu, .slice s.Ar nr s.cr]], w', ?_, ?_⟩⟩) ?_
      rotate_left
      · go_simp
        all_goals with_reducible rfl
      · exact (HRP.out w' hS).mono fun e w2 h => ⟨by rw [h.1], hS.trans (h.2.mono hS.size)⟩
      simp only [Act.put, List.setIfInBounds_toArray, List.set_cons_zero, List.set_cons_succ]
      refine det_take (v := ?_) (i := 2) (fuel := 17) (by simp; rfl) (by kernel_rfl) (by kernel_rfl) (by kernel_rfl) (Or.inl ⟨by rfl, fun w' hS => Or.inl ⟨w', ?_, hS⟩⟩) ?_
      rotate_left
      · go_simp
        all_goals with_reducible rfl
      simp only [Act.put, List.setIfInBounds_toArray, List.set_cons_zero, List.set_cons_succ]
      refine det_take (v := ?_) (i := 3) (fuel := 16) (by simp; rfl) (by kernel_rfl) (by kernel_rfl) (by kernel_rfl) (Or.inl ⟨by rfl, fun w' hS => Or.inl ⟨w', ?_, hS⟩⟩) ?_
      rotate_left
      · go_simp
        all_goals with_reducible rfl
      simp only [Act.put, List.setIfInBounds_toArray, List.set_cons_zero, List.set_cons_succ]
      refine det_take (v := ?_) (i := 4) (fuel := 15) (by simp; rfl) (by kernel_rfl) (by kernel_rfl) (by kernel_rfl) (Or.inl ⟨by rfl, fun w' hS => Or.inl ⟨w', ?_, hS⟩⟩) ?_
      rotate_left
      · go_simp
        all_goals with_reducible rfl
      simp only [Act.put, List.setIfInBounds_toArray, List.set_cons_zero, List.set_cons_succ]
      refine det_take (v := ?_) (i := 5) (fuel := 14) (by simp; rfl) (by kernel_rfl) (by kernel_rfl) (by kernel_rfl) (Or.inl ⟨by rfl, fun w' hS => Or.inl ⟨w', ?_, hS⟩⟩) ?_
      rotate_left
      · obtain ⟨lp, x0, x1, x2, x3, x4⟩ := PolBl.cells (Blk.below HPB.out hS (Blk.lt HPB.out))
        go_simp
        all_goals with_reducible rfl
      simp only [Act.put, List.setIfInBounds_toArray, List.set_cons_zero, List.set_cons_succ]
      refine det_take (v := ?_) (i := 6) (fuel := 13) (by simp; rfl) (by kernel_rfl) (by kernel_rfl) (by kernel_rfl) (Or.inl ⟨by rfl, fun w' hS => Or.inl ⟨w', ?_, hS⟩⟩) ?_
      rotate_left
      · go_simp
        all_goals with_reducible rfl
      simp only [Act.put, List.setIfInBounds_toArray, List.set_cons_zero, List.set_cons_succ]
      refine det_take (v := ?_) (i := 7) (fuel := 12) (by simp; rfl) (by kernel_rfl) (by kernel_rfl) (by kernel_rfl) (Or.inl ⟨by rfl, fun w' hS => Or.inr ⟨31, #[.int .i64 k, .int .i64 nh], w', ?_, ?_⟩⟩) ?_
      rotate_left
      · go_simp
        all_goals with_reducible rfl
      · exact (HAKm.out w').mono fun e w2 h => ⟨by rw [h.1], h.2 ▸ hS⟩
      simp only [Act.put, List.setIfInBounds_toArray, List.set_cons_zero, List.set_cons_succ]
      refine det_take (v := ?_) (i := 8) (fuel := 11) (by simp; rfl) (by kernel_rfl) (by kernel_rfl) (by kernel_rfl) (Or.inl ⟨by rfl, fun w' hS => Or.inl ⟨w', ?_, hS⟩⟩) ?_
      rotate_left
      · go_simp
        all_goals with_reducible rfl
      simp only [Act.put, List.setIfInBounds_toArray, List.set_cons_zero, List.set_cons_succ]
      refine det_take (v := ?_) (i := 9) (fuel := 10) (by simp; rfl) (by kernel_rfl) (by kernel_rfl) (by kernel_rfl) (Or.inl ⟨by rfl, fun w' hS => Or.inl ⟨w', ?_, hS⟩⟩) ?_
      rotate_left
      · go_simp
        all_goals with_reducible rfl
      simp only [Act.put, List.setIfInBounds_toArray, List.set_cons_zero, List.set_cons_succ]
      refine det_take (v := undef) (i := 10) (fuel := 9) (by simp; rfl) (by kernel_rfl) (by kernel_rfl) (by kernel_rfl) (Or.inr ⟨by rfl, by rfl⟩) ?_
      simp only [Act.put, List.setIfInBounds_toArray, List.set_cons_zero, List.set_cons_succ]
      refine det_take (v := undef) (i := 11) (fuel := 8) (by simp; rfl) (by kernel_rfl) (by kernel_rfl) (by kernel_rfl) (Or.inr ⟨by rfl, by rfl⟩) ?_
      simp only [Act.put, List.setIfInBounds_toArray, List.set_cons_zero, List.set_cons_succ]
      refine det_take (v := undef) (i := 12) (fuel := 7) (by simp; rfl) (by kernel_rfl) (by kernel_rfl) (by kernel_rfl) (Or.inr ⟨by rfl, by rfl⟩) ?_
      simp only [Act.put, List.setIfInBounds_toArray, List.set_cons_zero, List.set_cons_succ]
      refine det_take (v := undef) (i := 13) (fuel := 6) (by simp; rfl) (by kernel_rfl) (by kernel_rfl) (by kernel_rfl) (Or.inr ⟨by rfl, by rfl⟩) ?_
      simp only [Act.put, List.setIfInBounds_toArray, List.set_cons_zero, List.set_cons_succ]
      refine det_take (v := undef) (i := 14) (fuel := 5) (by simp; rfl) (by kernel_rfl) (by kernel_rfl) (by kernel_rfl) (Or.inr ⟨by rfl, by rfl⟩) ?_
      simp only [Act.put, List.setIfInBounds_toArray, List.set_cons_zero, List.set_cons_succ]
      refine det_take (v := undef) (i := 15) (fuel := 4) (by simp; rfl) (by kernel_rfl) (by kernel_rfl) (by kernel_rfl) (Or.inr ⟨by rfl, by rfl⟩) ?_
      simp only [Act.put, List.setIfInBounds_toArray, List.set_cons_zero, List.set_cons_succ]
      refine det_take (v := undef) (i := 16) (fuel := 3) (by simp; rfl) (by kernel_rfl) (by kernel_rfl) (by kernel_rfl) (Or.inr ⟨by rfl, by rfl⟩) ?_
      simp only [Act.put, List.setIfInBounds_toArray, List.set_cons_zero, List.set_cons_succ]
      refine det_take (v := undef) (i := 17) (fuel := 2) (by simp; rfl) (by kernel_rfl) (by kernel_rfl) (by kernel_rfl) (Or.inr ⟨by rfl, by rfl⟩) ?_
      simp only [Act.put, List.setIfInBounds_toArray, List.set_cons_zero, List.set_cons_succ]
      refine det_take (v := ?_) (i := 18) (fuel := 1) (by simp; rfl) (by kernel_rfl) (by kernel_rfl) (by kernel_rfl) (Or.inl ⟨by rfl, fun w' hS => Or.inl ⟨w', ?_, hS⟩⟩) ?_
      rotate_left
      · go_simp
        all_goals with_reducible rfl
      simp only [Act.put, List.setIfInBounds_toArray, List.set_cons_zero, List.set_cons_succ]
      refine det_take (v := ?_) (i := 19) (fuel := 0) (by simp; rfl) (by kernel_rfl) (by kernel_rfl) (by kernel_rfl) (Or.inl ⟨by rfl, fun w' hS => Or.inl ⟨w', ?_, hS⟩⟩) ?_
      rotate_left
      · go_simp
        all_goals with_reducible rfl
      simp only [Act.put, List.setIfInBounds_toArray, List.set_cons_zero, List.set_cons_succ]
      refine det_done (by kernel_rfl) (fun V hV => ?_) _
      go_wp2
      go_ret
      exact ⟨rfl, HBW.out.trans (hV.mono HBW.out.size)⟩
set_option maxRecDepth 100000 in
set_option maxHeartbeats 3200000 in
theorem ruRel_c2 (s : Slp) (P : PolP) (w : World) (ne ng nh nu nr : Nat) (h : PolRd w w.heap.size s P) (hwd : PolWd P) (hne : P.ents.length = ne) (hng : P.grp.length = ng) (hnh : P.who.length = nh) (hnu : P.up.length = nu) (hnr : P.rules.length = nr) (β : Bool) (hβ : β = true ↔ RightPol P) (k : Int) (m : Int) (q : Bool) (hq : relB β P k m = q) :
    Calls Try.prog 18 #[.agg #[.slice s.Ae ne s.ce, .slice s.Ag ng s.cg, .slice s.Ah nh s.ch, .slice s.Au nu s.cu, .slice s.Ar nr s.cr], .int .i64 k, .int .i64 m] w (RetB w q) := by
  obtain ⟨gp, hgp⟩ : ∃ g, w.heap.size = g := ⟨_, rfl⟩
  obtain ⟨W0, hW⟩ : ∃ V, w.alloc (.cells #[.slice s.Ae ne s.ce, .slice s.Ag ng s.cg, .slice s.Ah nh s.ch, .slice s.Au nu s.cu, .slice s.Ar nr s.cr] 28) = V := ⟨_, rfl⟩
  have HBX := Lib.hid (show Below w.heap.size w W0 from by rw [← hW]; exact bel_alloc (Below.refl _ _) _)
  have HPX := Lib.hid (show PolBl W0 gp s ne ng nh nu nr from by rw [← hW, ← hgp]; exact Blk.new _ _ _)
  have HRD := Lib.hid (fun (V : World) (hb : Below w.heap.size w V) => h.below hb)
  have HRP := Lib.hid (ruRight_c s P W0 ne ng nh nu nr ((h.below HBX.out).more HBX.out.size) hwd hne hng hnh hnu hnr β hβ)
  have HAK := Lib.hid (fun (V : World) (b : Bool) (e : (decide (0 ≤ k) && decide (k < (nh : Int))) = b) => among_c k (nh : Int) b V e)
  have HAM := Lib.hid (fun (V : World) (b : Bool) (e : (decide (0 ≤ m) && decide (m < (nr : Int))) = b) => among_c m (nr : Int) b V e)
  have HV := Lib.hid hq
  have HWD := Lib.hid hwd
  have HBT := Lib.hid hβ
  have HNH := Lib.hid hnh
  have HNR := Lib.hid hnr
  have HNU := Lib.hid hnu
  have hlr := hwd.2.2.2.2.2.2.2
  rw [hnr] at hlr
  obtain ⟨lp, x0, x1, x2, x3, x4⟩ := HPX.out.cells
  clear h hwd hne hng hnh hnu hnr hβ hq
  go_enter Try.func18, Try.ntmps18
  go_wp2_with fail
  (with_reducible refine HRP.out.mono ?_)
  rintro e W ⟨rfl, hb⟩
  have HPB := Lib.hid (show PolBl W gp s ne ng nh nu nr from Blk.below HPX.out hb (Blk.lt HPX.out))
  have HBW := Lib.hid (HBX.out.trans (hb.mono HBX.out.size))
  clear hb lp x0 x1 x2 x3 x4 hW hgp HRP HPX HBX
  obtain ⟨lp, x0, x1, x2, x3, x4⟩ := HPB.out.cells
  cases β
  · obtain rfl : q = false := HV.out.symm
    go_wp2
    go_ret
    exact ⟨rfl, HBW.out⟩
  · by_cases k12 : 0 ≤ k ∧ k < (nh : Int)
    · have HAKm := Lib.hid (fun V => HAK.out V true (by rw [decide_eq_true k12.1, decide_eq_true k12.2]; rfl))
      go_wp2_with fail
      (with_reducible refine (HAKm.out _).mono ?_)
      rintro e w2 ⟨rfl, rfl⟩
      by_cases k34 : 0 ≤ m ∧ m < (nr : Int)
      · have HAMm := Lib.hid (fun V => HAM.out V true (by rw [decide_eq_true k34.1, decide_eq_true k34.2]; rfl))
        go_wp2_with fail
        (with_reducible refine (HAMm.out _).mono ?_)
        rintro e w3 ⟨rfl, rfl⟩
        obtain ⟨i, rfl⟩ : ∃ i : Nat, k = (i : Int) := ⟨k.toNat, by omega⟩
        obtain ⟨j, rfl⟩ : ∃ j : Nat, m = (j : Int) := ⟨m.toNat, by omega⟩
        obtain ⟨x, hx⟩ := get_at (l := P.who) (k := i) (by rw [HNH.out]; omega)
        obtain ⟨r, hr⟩ := get_at (l := P.rules) (k := j) (by rw [HNR.out]; omega)
        obtain ⟨g, o, hA, hg, hc⟩ := rd_rule (HRD.out W HBW.out).2.2.2.2 (by rw [HNR.out]; omega) hr
        have hok := (HBT.out.1 (by first | rfl | trivial)).2.2.2.2 _ _ hr
        have hrl : r.role < 9223372036854775808 := by
          have h1 := hok.1.2
          have h2 := HWD.out.2.2.2.2.2.2.1
          omega
        obtain ⟨η, hη⟩ : ∃ b, hasV P.up x.ro r.role = b := ⟨_, rfl⟩
        have HHA := Lib.hid (fun (V : World) (hb : Below W.heap.size W V) => ruHas_c s P V ne ng nh nu nr ((HRD.out V (HBW.out.trans (hb.mono HBW.out.size))).more (Nat.le_trans HBW.out.size hb.size)) HWD.out HNH.out HNU.out i x hx r hrl η hη)
        have HV2 := Lib.hid (show (decide (r.tag = 3) && η) = q by
          have h := HV.out
          unfold relB whoAt ruleAt at h
          rw [decide_eq_true k12.1, decide_eq_true (show (i : Int) < (P.who.length : Int) by rw [HNH.out]; exact k12.2), decide_eq_true k34.1, decide_eq_true (show (j : Int) < (P.rules.length : Int) by rw [HNR.out]; exact k34.2), Int.toNat_natCast, Int.toNat_natCast, hx, hr] at h
          rw [← hη]
          simpa using h)
        obtain ⟨tag, role, verb, ent, grp, line, neg, c0, c1, sc, toS, toL⟩ := r
        dsimp only at HV2
        have HHX := Lib.hid (fun (V : World) (hb : Below W.heap.size W V) => show Calls Try.prog 32 #[.agg #[.slice s.Ae ne s.ce, .slice s.Ag ng s.cg, .slice s.Ah nh s.ch, .slice s.Au nu s.cu, .slice s.Ar nr s.cr], .int .i64 (i : Int), .agg #[.int .i64 tag, .int .i64 role, .int .i64 verb, .int .i64 ent, .int .i64 grp, .int .i64 line, .bool neg, .int .u64 (c0 : Int), .int .u64 (c1 : Int), .int .i64 sc, .int .u64 (toS : Int), .int .i64 toL]] V (RetB V η) from HHA.out V hb)
        have HA := Lib.hid hA
        have HC := Lib.hid hc
        have hgW : g < W.heap.size := by have := HBW.out.size; omega
        rw [hA] at HHX
        clear hA hc hη hok hrl HHA hx hr HV lp x0 x1 x2 x3 x4
        go_wp2_with fail
        by_cases k5 : tag = 3
        · have h3 : (tag == 3) = true := by simp; omega
          obtain rfl : q = η := by rw [← HV2.out, decide_eq_true k5, Bool.true_and]
          clear k5
          refine wp_region_det (S := fun V => Below W.heap.size W V) (by kernel_rfl) (Below.refl W.heap.size W).drew ?_
          refine det_take (v := ?_) (i := 0) (fuel := 17) (by simp; rfl) (by kernel_rfl) (by kernel_rfl) (by kernel_rfl) (Or.inl ⟨by rfl, fun w' hS => Or.inl ⟨w', ?_, hS⟩⟩) ?_
          rotate_left
          · obtain ⟨lp, x0, x1, x2, x3, x4⟩ := PolBl.cells (Blk.below HPB.out hS (Blk.lt HPB.out))
            rw [HA.out] at x4
            go_simp
            all_goals with_reducible rfl
          simp only [Act.put, List.setIfInBounds_toArray, List.set_cons_zero, List.set_cons_succ]
          refine det_take (v := ?_) (i := 1) (fuel := 16) (by simp; rfl) (by kernel_rfl) (by kernel_rfl) (by kernel_rfl) (Or.inl ⟨by rfl, fun w' hS => Or.inl ⟨w', ?_, hS⟩⟩) ?_
          rotate_left
          · obtain ⟨lp, x0, x1, x2, x3, x4⟩ := PolBl.cells (Blk.below HPB.out hS (Blk.lt HPB.out))
            rw [HA.out] at x4
            go_simp
            all_goals with_reducible rfl
          simp only [Act.put, List.setIfInBounds_toArray, List.set_cons_zero, List.set_cons_succ]
          refine det_take (v := ?_) (i := 2) (fuel := 15) (by simp; rfl) (by kernel_rfl) (by kernel_rfl) (by kernel_rfl) (Or.inl ⟨by rfl, fun w' hS => Or.inl ⟨w', ?_, hS⟩⟩) ?_
          rotate_left
          · go_simp
            all_goals with_reducible rfl
          simp only [Act.put, List.setIfInBounds_toArray, List.set_cons_zero, List.set_cons_succ]
          refine det_take (v := ?_) (i := 3) (fuel := 14) (by simp; rfl) (by kernel_rfl) (by kernel_rfl) (by kernel_rfl) (Or.inl ⟨by rfl, fun w' hS => Or.inl ⟨w', ?_, hS⟩⟩) ?_
          rotate_left
          · go_simp
            all_goals with_reducible rfl
          simp only [Act.put, List.setIfInBounds_toArray, List.set_cons_zero, List.set_cons_succ]
          refine det_take (v := ?_) (i := 4) (fuel := 13) (by simp; rfl) (by kernel_rfl) (by kernel_rfl) (by kernel_rfl) (Or.inl ⟨by rfl, fun w' hS => Or.inl ⟨w', ?_, hS⟩⟩) ?_
          rotate_left
          · go_simp
            all_goals with_reducible rfl
          simp only [Act.put, List.setIfInBounds_toArray, List.set_cons_zero, List.set_cons_succ]
          refine det_take (v := ?_) (i := 5) (fuel := 12) (by simp; rfl) (by kernel_rfl) (by kernel_rfl) (by kernel_rfl) (Or.inl ⟨by rfl, fun w' hS => Or.inl ⟨w', ?_, hS⟩⟩) ?_
          rotate_left
          · have z0 : w'.cell? ⟨g, o + j * 12, none⟩ = some (.int .i64 tag) := (hS.cell (p := ⟨g, o + j * 12, none⟩) hgW).trans (HC.out 0 _ (by decide) rfl)
            go_simp
            all_goals with_reducible rfl
          simp only [Act.put, List.setIfInBounds_toArray, List.set_cons_zero, List.set_cons_succ]
          refine det_take (v := ?_) (i := 6) (fuel := 11) (by simp; rfl) (by kernel_rfl) (by kernel_rfl) (by kernel_rfl) (Or.inl ⟨by rfl, fun w' hS => Or.inl ⟨w', ?_, hS⟩⟩) ?_
          rotate_left
          · go_simp
            all_goals with_reducible rfl
          simp only [Act.put, List.setIfInBounds_toArray, List.set_cons_zero, List.set_cons_succ]
          refine det_take (v := ?_) (i := 7) (fuel := 10) (by simp; rfl) (by kernel_rfl) (by kernel_rfl) (by kernel_rfl) (Or.inl ⟨by rfl, fun w' hS => Or.inl ⟨w', ?_, hS⟩⟩) ?_
          rotate_left
          · go_simp
            all_goals with_reducible rfl
          simp only [Act.put, List.setIfInBounds_toArray, List.set_cons_zero, List.set_cons_succ]
          refine det_take (v := ?_) (i := 8) (fuel := 9) (by simp; rfl) (by kernel_rfl) (by kernel_rfl) (by kernel_rfl) (Or.inl ⟨by rfl, fun w' hS => Or.inl ⟨w', ?_, hS⟩⟩) ?_
          rotate_left
          · obtain ⟨lp, x0, x1, x2, x3, x4⟩ := PolBl.cells (Blk.below HPB.out hS (Blk.lt HPB.out))
            rw [HA.out] at x4
            go_simp
            all_goals with_reducible rfl
          simp only [Act.put, List.setIfInBounds_toArray, List.set_cons_zero, List.set_cons_succ]
          refine det_take (v := ?_) (i := 9) (fuel := 8) (by simp; rfl) (by kernel_rfl) (by kernel_rfl) (by kernel_rfl) (Or.inl ⟨by rfl, fun w' hS => Or.inl ⟨w', ?_, hS⟩⟩) ?_
          rotate_left
          · go_simp
            all_goals with_reducible rfl
          simp only [Act.put, List.setIfInBounds_toArray, List.set_cons_zero, List.set_cons_succ]
          refine det_take (v := ?_) (i := 10) (fuel := 7) (by simp; rfl) (by kernel_rfl) (by kernel_rfl) (by kernel_rfl) (Or.inl ⟨by rfl, fun w' hS => Or.inl ⟨w', ?_, hS⟩⟩) ?_
          rotate_left
          · obtain ⟨lp, x0, x1, x2, x3, x4⟩ := PolBl.cells (Blk.below HPB.out hS (Blk.lt HPB.out))
            rw [HA.out] at x4
            go_simp
            all_goals with_reducible rfl
          simp only [Act.put, List.setIfInBounds_toArray, List.set_cons_zero, List.set_cons_succ]
          refine det_take (v := ?_) (i := 11) (fuel := 6) (by simp; rfl) (by kernel_rfl) (by kernel_rfl) (by kernel_rfl) (Or.inl ⟨by rfl, fun w' hS => Or.inl ⟨w', ?_, hS⟩⟩) ?_
          rotate_left
          · obtain ⟨lp, x0, x1, x2, x3, x4⟩ := PolBl.cells (Blk.below HPB.out hS (Blk.lt HPB.out))
            rw [HA.out] at x4
            go_simp
            all_goals with_reducible rfl
          simp only [Act.put, List.setIfInBounds_toArray, List.set_cons_zero, List.set_cons_succ]
          refine det_take (v := ?_) (i := 12) (fuel := 5) (by simp; rfl) (by kernel_rfl) (by kernel_rfl) (by kernel_rfl) (Or.inl ⟨by rfl, fun w' hS => Or.inl ⟨w', ?_, hS⟩⟩) ?_
          rotate_left
          · go_simp
            all_goals with_reducible rfl
          simp only [Act.put, List.setIfInBounds_toArray, List.set_cons_zero, List.set_cons_succ]
          refine det_take (v := ?_) (i := 13) (fuel := 4) (by simp; rfl) (by kernel_rfl) (by kernel_rfl) (by kernel_rfl) (Or.inl ⟨by rfl, fun w' hS => Or.inl ⟨w', ?_, hS⟩⟩) ?_
          rotate_left
          · go_simp
            all_goals with_reducible rfl
          simp only [Act.put, List.setIfInBounds_toArray, List.set_cons_zero, List.set_cons_succ]
          refine det_take (v := ?_) (i := 14) (fuel := 3) (by simp; rfl) (by kernel_rfl) (by kernel_rfl) (by kernel_rfl) (Or.inl ⟨by rfl, fun w' hS => Or.inl ⟨w', ?_, hS⟩⟩) ?_
          rotate_left
          · have z0 : w'.cell? ⟨g, o + j * 12, none⟩ = some (.int .i64 tag) := (hS.cell (p := ⟨g, o + j * 12, none⟩) hgW).trans (HC.out 0 _ (by decide) rfl)
            have z1 : w'.cell? ⟨g, o + j * 12 + 1, none⟩ = some (.int .i64 role) := (hS.cell (p := ⟨g, o + j * 12 + 1, none⟩) hgW).trans (HC.out 1 _ (by decide) rfl)
            have z2 : w'.cell? ⟨g, o + j * 12 + 2, none⟩ = some (.int .i64 verb) := (hS.cell (p := ⟨g, o + j * 12 + 2, none⟩) hgW).trans (HC.out 2 _ (by decide) rfl)
            have z3 : w'.cell? ⟨g, o + j * 12 + 3, none⟩ = some (.int .i64 ent) := (hS.cell (p := ⟨g, o + j * 12 + 3, none⟩) hgW).trans (HC.out 3 _ (by decide) rfl)
            have z4 : w'.cell? ⟨g, o + j * 12 + 4, none⟩ = some (.int .i64 grp) := (hS.cell (p := ⟨g, o + j * 12 + 4, none⟩) hgW).trans (HC.out 4 _ (by decide) rfl)
            have z5 : w'.cell? ⟨g, o + j * 12 + 5, none⟩ = some (.int .i64 line) := (hS.cell (p := ⟨g, o + j * 12 + 5, none⟩) hgW).trans (HC.out 5 _ (by decide) rfl)
            have z6 : w'.cell? ⟨g, o + j * 12 + 6, none⟩ = some (.bool neg) := (hS.cell (p := ⟨g, o + j * 12 + 6, none⟩) hgW).trans (HC.out 6 _ (by decide) rfl)
            have z7 : w'.cell? ⟨g, o + j * 12 + 7, none⟩ = some (.int .u64 (c0 : Int)) := (hS.cell (p := ⟨g, o + j * 12 + 7, none⟩) hgW).trans (HC.out 7 _ (by decide) rfl)
            have z8 : w'.cell? ⟨g, o + j * 12 + 8, none⟩ = some (.int .u64 (c1 : Int)) := (hS.cell (p := ⟨g, o + j * 12 + 8, none⟩) hgW).trans (HC.out 8 _ (by decide) rfl)
            have z9 : w'.cell? ⟨g, o + j * 12 + 9, none⟩ = some (.int .i64 sc) := (hS.cell (p := ⟨g, o + j * 12 + 9, none⟩) hgW).trans (HC.out 9 _ (by decide) rfl)
            have z10 : w'.cell? ⟨g, o + j * 12 + 10, none⟩ = some (.int .u64 (toS : Int)) := (hS.cell (p := ⟨g, o + j * 12 + 10, none⟩) hgW).trans (HC.out 10 _ (by decide) rfl)
            have z11 : w'.cell? ⟨g, o + j * 12 + 11, none⟩ = some (.int .i64 toL) := (hS.cell (p := ⟨g, o + j * 12 + 11, none⟩) hgW).trans (HC.out 11 _ (by decide) rfl)
            go_simp
            all_goals with_reducible rfl
          simp only [Act.put, List.setIfInBounds_toArray, List.set_cons_zero, List.set_cons_succ]
          refine det_take (v := ?_) (i := 15) (fuel := 2) (by simp; rfl) (by kernel_rfl) (by kernel_rfl) (by kernel_rfl) (Or.inl ⟨by rfl, fun w' hS => Or.inr ⟨32, #[.agg #[.slice s.Ae ne s.ce, .slice s.Ag ng s.cg, .slice s.Ah nh s.ch, .slice s.Au nu s.cu, .slice (some ⟨g, o, none⟩) nr s.cr], .int .i64 (i : Int), .agg #[.int .i64 tag, .int .i64 role, .int .i64 verb, .int .i64 ent, .int .i64 grp, .int .i64 line, .bool neg, .int .u64 (c0 : Int), .int .u64 (c1 : Int), .int .i64 sc, .int .u64 (toS : Int), .int .i64 toL]], w', ?_, ?_⟩⟩) ?_
          rotate_left
          · go_simp
            all_goals with_reducible rfl
          · exact (HHX.out w' hS).mono fun e w2 h => ⟨by rw [h.1], hS.trans (h.2.mono hS.size)⟩
          simp only [Act.put, List.setIfInBounds_toArray, List.set_cons_zero, List.set_cons_succ]
          refine det_take (v := ?_) (i := 16) (fuel := 1) (by simp; rfl) (by kernel_rfl) (by kernel_rfl) (by kernel_rfl) (Or.inl ⟨by rfl, fun w' hS => Or.inl ⟨w', ?_, hS⟩⟩) ?_
          rotate_left
          · go_simp
            all_goals with_reducible rfl
          simp only [Act.put, List.setIfInBounds_toArray, List.set_cons_zero, List.set_cons_succ]
          refine det_take (v := ?_) (i := 17) (fuel := 0) (by simp; rfl) (by kernel_rfl) (by kernel_rfl) (by kernel_rfl) (Or.inl ⟨by rfl, fun w' hS => Or.inl ⟨w', ?_, hS⟩⟩) ?_
          rotate_left
          · go_simp
            all_goals with_reducible rfl
          simp only [Act.put, List.setIfInBounds_toArray, List.set_cons_zero, List.set_cons_succ]
          refine det_done (by kernel_rfl) (fun V hV => ?_) _
          go_wp2
          go_ret
          exact ⟨rfl, HBW.out.trans (hV.mono HBW.out.size)⟩
        · have h3 : (tag == 3) = false := by simp; omega
          obtain rfl : q = false := by rw [← HV2.out, decide_eq_false k5, Bool.false_and]
          clear k5
          refine wp_region_det (S := fun V => Below W.heap.size W V) (by kernel_rfl) (Below.refl W.heap.size W).drew ?_
          refine det_take (v := ?_) (i := 0) (fuel := 17) (by simp; rfl) (by kernel_rfl) (by kernel_rfl) (by kernel_rfl) (Or.inl ⟨by rfl, fun w' hS => Or.inl ⟨w', ?_, hS⟩⟩) ?_
          rotate_left
          · obtain ⟨lp, x0, x1, x2, x3, x4⟩ := PolBl.cells (Blk.below HPB.out hS (Blk.lt HPB.out))
            rw [HA.out] at x4
            go_simp
            all_goals with_reducible rfl
          simp only [Act.put, List.setIfInBounds_toArray, List.set_cons_zero, List.set_cons_succ]
          refine det_take (v := ?_) (i := 1) (fuel := 16) (by simp; rfl) (by kernel_rfl) (by kernel_rfl) (by kernel_rfl) (Or.inl ⟨by rfl, fun w' hS => Or.inl ⟨w', ?_, hS⟩⟩) ?_
          rotate_left
          · obtain ⟨lp, x0, x1, x2, x3, x4⟩ := PolBl.cells (Blk.below HPB.out hS (Blk.lt HPB.out))
            rw [HA.out] at x4
            go_simp
            all_goals with_reducible rfl
          simp only [Act.put, List.setIfInBounds_toArray, List.set_cons_zero, List.set_cons_succ]
          refine det_take (v := ?_) (i := 2) (fuel := 15) (by simp; rfl) (by kernel_rfl) (by kernel_rfl) (by kernel_rfl) (Or.inl ⟨by rfl, fun w' hS => Or.inl ⟨w', ?_, hS⟩⟩) ?_
          rotate_left
          · go_simp
            all_goals with_reducible rfl
          simp only [Act.put, List.setIfInBounds_toArray, List.set_cons_zero, List.set_cons_succ]
          refine det_take (v := ?_) (i := 3) (fuel := 14) (by simp; rfl) (by kernel_rfl) (by kernel_rfl) (by kernel_rfl) (Or.inl ⟨by rfl, fun w' hS => Or.inl ⟨w', ?_, hS⟩⟩) ?_
          rotate_left
          · go_simp
            all_goals with_reducible rfl
          simp only [Act.put, List.setIfInBounds_toArray, List.set_cons_zero, List.set_cons_succ]
          refine det_take (v := ?_) (i := 4) (fuel := 13) (by simp; rfl) (by kernel_rfl) (by kernel_rfl) (by kernel_rfl) (Or.inl ⟨by rfl, fun w' hS => Or.inl ⟨w', ?_, hS⟩⟩) ?_
          rotate_left
          · go_simp
            all_goals with_reducible rfl
          simp only [Act.put, List.setIfInBounds_toArray, List.set_cons_zero, List.set_cons_succ]
          refine det_take (v := ?_) (i := 5) (fuel := 12) (by simp; rfl) (by kernel_rfl) (by kernel_rfl) (by kernel_rfl) (Or.inl ⟨by rfl, fun w' hS => Or.inl ⟨w', ?_, hS⟩⟩) ?_
          rotate_left
          · have z0 : w'.cell? ⟨g, o + j * 12, none⟩ = some (.int .i64 tag) := (hS.cell (p := ⟨g, o + j * 12, none⟩) hgW).trans (HC.out 0 _ (by decide) rfl)
            go_simp
            all_goals with_reducible rfl
          simp only [Act.put, List.setIfInBounds_toArray, List.set_cons_zero, List.set_cons_succ]
          refine det_take (v := ?_) (i := 6) (fuel := 11) (by simp; rfl) (by kernel_rfl) (by kernel_rfl) (by kernel_rfl) (Or.inl ⟨by rfl, fun w' hS => Or.inl ⟨w', ?_, hS⟩⟩) ?_
          rotate_left
          · go_simp
            all_goals with_reducible rfl
          simp only [Act.put, List.setIfInBounds_toArray, List.set_cons_zero, List.set_cons_succ]
          refine det_take (v := ?_) (i := 7) (fuel := 10) (by simp; rfl) (by kernel_rfl) (by kernel_rfl) (by kernel_rfl) (Or.inl ⟨by rfl, fun w' hS => Or.inl ⟨w', ?_, hS⟩⟩) ?_
          rotate_left
          · go_simp
            all_goals with_reducible rfl
          simp only [Act.put, List.setIfInBounds_toArray, List.set_cons_zero, List.set_cons_succ]
          refine det_take (v := undef) (i := 8) (fuel := 9) (by simp; rfl) (by kernel_rfl) (by kernel_rfl) (by kernel_rfl) (Or.inr ⟨by rfl, by rfl⟩) ?_
          simp only [Act.put, List.setIfInBounds_toArray, List.set_cons_zero, List.set_cons_succ]
          refine det_take (v := undef) (i := 9) (fuel := 8) (by simp; rfl) (by kernel_rfl) (by kernel_rfl) (by kernel_rfl) (Or.inr ⟨by rfl, by rfl⟩) ?_
          simp only [Act.put, List.setIfInBounds_toArray, List.set_cons_zero, List.set_cons_succ]
          refine det_take (v := undef) (i := 10) (fuel := 7) (by simp; rfl) (by kernel_rfl) (by kernel_rfl) (by kernel_rfl) (Or.inr ⟨by rfl, by rfl⟩) ?_
          simp only [Act.put, List.setIfInBounds_toArray, List.set_cons_zero, List.set_cons_succ]
          refine det_take (v := undef) (i := 11) (fuel := 6) (by simp; rfl) (by kernel_rfl) (by kernel_rfl) (by kernel_rfl) (Or.inr ⟨by rfl, by rfl⟩) ?_
          simp only [Act.put, List.setIfInBounds_toArray, List.set_cons_zero, List.set_cons_succ]
          refine det_take (v := undef) (i := 12) (fuel := 5) (by simp; rfl) (by kernel_rfl) (by kernel_rfl) (by kernel_rfl) (Or.inr ⟨by rfl, by rfl⟩) ?_
          simp only [Act.put, List.setIfInBounds_toArray, List.set_cons_zero, List.set_cons_succ]
          refine det_take (v := undef) (i := 13) (fuel := 4) (by simp; rfl) (by kernel_rfl) (by kernel_rfl) (by kernel_rfl) (Or.inr ⟨by rfl, by rfl⟩) ?_
          simp only [Act.put, List.setIfInBounds_toArray, List.set_cons_zero, List.set_cons_succ]
          refine det_take (v := undef) (i := 14) (fuel := 3) (by simp; rfl) (by kernel_rfl) (by kernel_rfl) (by kernel_rfl) (Or.inr ⟨by rfl, by rfl⟩) ?_
          simp only [Act.put, List.setIfInBounds_toArray, List.set_cons_zero, List.set_cons_succ]
          refine det_take (v := undef) (i := 15) (fuel := 2) (by simp; rfl) (by kernel_rfl) (by kernel_rfl) (by kernel_rfl) (Or.inr ⟨by rfl, by rfl⟩) ?_
          simp only [Act.put, List.setIfInBounds_toArray, List.set_cons_zero, List.set_cons_succ]
          refine det_take (v := ?_) (i := 16) (fuel := 1) (by simp; rfl) (by kernel_rfl) (by kernel_rfl) (by kernel_rfl) (Or.inl ⟨by rfl, fun w' hS => Or.inl ⟨w', ?_, hS⟩⟩) ?_
          rotate_left
          · go_simp
            all_goals with_reducible rfl
          simp only [Act.put, List.setIfInBounds_toArray, List.set_cons_zero, List.set_cons_succ]
          refine det_take (v := ?_) (i := 17) (fuel := 0) (by simp; rfl) (by kernel_rfl) (by kernel_rfl) (by kernel_rfl) (Or.inl ⟨by rfl, fun w' hS => Or.inl ⟨w', ?_, hS⟩⟩) ?_
          rotate_left
          · go_simp
            all_goals with_reducible rfl
          simp only [Act.put, List.setIfInBounds_toArray, List.set_cons_zero, List.set_cons_succ]
          refine det_done (by kernel_rfl) (fun V hV => ?_) _
          go_wp2
          go_ret
          exact ⟨rfl, HBW.out.trans (hV.mono HBW.out.size)⟩
      · have HAMm := Lib.hid (fun V => HAM.out V false (by rw [← Bool.decide_and, decide_eq_false k34]))
        obtain rfl : q = false := by
          have h := HV.out
          unfold relB at h
          have e : (decide (0 ≤ m) && decide (m < (P.rules.length : Int))) = false := by rw [HNR.out, ← Bool.decide_and, decide_eq_false k34]
          rw [← h, ← Bool.and_assoc (decide (0 ≤ m)), e]
          simp
        go_wp2_with fail
        (with_reducible refine (HAMm.out _).mono ?_)
        rintro e w3 ⟨rfl, rfl⟩
        go_wp2
        go_ret
        exact ⟨rfl, HBW.out⟩
    · have HAKm := Lib.hid (fun V => HAK.out V false (by rw [← Bool.decide_and, decide_eq_false k12]))
      obtain rfl : q = false := by
        have h := HV.out
        unfold relB at h
        have e : (decide (0 ≤ k) && decide (k < (P.who.length : Int))) = false := by rw [HNH.out, ← Bool.decide_and, decide_eq_false k12]
        rw [← h, ← Bool.and_assoc (decide (0 ≤ k)), e]
        simp
      go_wp2_with fail
      (with_reducible refine (HAKm.out _).mono ?_)
      rintro e w3 ⟨rfl, rfl⟩
      go_wp2
      go_ret
      exact ⟨rfl, HBW.out⟩
end Go.Proofs.Ytakofbkbbmpfeaa

/- RuleKnown. -/
import Derived.Test.YthjdflhjlaedgaaRulJ
import Derived.Test.YthjdflhjlaedgaaRulG
import Derived.Test.YthjdflhjlaedgaaDet
namespace Go.Proofs.Ythjdflhjlaedgaa
open Go.RowKit
theorem wpList_val {P : Program} {ops : Array Oper} {Q : Exit → Act → World → Prop} {a : Act} {w w' : World} {rest : List Oper} {o : Oper} {v : Value} (hg : o.guard = none) (h : (execOp a.eval o).run P w = .ok (.value v) w') (hn : wpList P ops Q rest (a.put o.dst v) w') : wpList P ops Q (o :: rest) a w :=
  wpList_plain hg fun K hK => by
    unfold Oper.wp
    rw [h]
    exact hK _ _ hn
set_option maxRecDepth 100000 in
theorem lit_run {X : World} {o : Oper} {a : Act} {t : Operand} {tag role verb ent grp line c0 c1 sc toS toL : Int} {neg : Bool} (ho : o.op = .buildSlice 26 1 #[(0, t)]) (ha : a.eval t = .agg #[.int .i64 tag, .int .i64 role, .int .i64 verb, .int .i64 ent, .int .i64 grp, .int .i64 line, .bool neg, .int .u64 c0, .int .u64 c1, .int .i64 sc, .int .u64 toS, .int .i64 toL]) :
    (execOp a.eval o).run Try.prog X = .ok (.value (.slice (some ⟨X.heap.size, 0, none⟩) 1 1)) (X.alloc (.cells #[.int .i64 tag, .int .i64 role, .int .i64 verb, .int .i64 ent, .int .i64 grp, .int .i64 line, .bool neg, .int .u64 c0, .int .u64 c1, .int .i64 sc, .int .u64 toS, .int .i64 toL] 37)) := by
  unfold execOp
  rw [ho]
  generalize hv : a.eval = ev at ha ⊢
  simp [go_sem, ha]
def rules5 : List RuleP := [actR 1 0 1 (-1), actR 2 0 1 1, actR 2 0 2 (-1), actR 1 0 2 1, ⟨3, 0, 0, -1, 0, 0, false, 100, 0, 0, 0, 0⟩]
theorem ruleW_all {l : List RuleP} (h : l.all (fun r => decide (r.c0 < 18446744073709551616) && (decide (r.c1 < 18446744073709551616) && decide (r.toS < 18446744073709551616))) = true) : ∀ r ∈ l, RuleW r := fun r hr => by
  have h1 := List.all_eq_true.1 h r hr
  rw [Bool.and_eq_true, Bool.and_eq_true, decide_eq_true_eq, decide_eq_true_eq, decide_eq_true_eq] at h1
  exact h1
/-- Its words are words, decided. -/
def wdB (P : PolP) : Bool := P.grp.all (fun g => decide (g < 18446744073709551616)) && (P.who.all (fun x => decide (x.set < 18446744073709551616) && decide (x.ro < 18446744073709551616)) && (P.rules.all (fun r => decide (r.c0 < 18446744073709551616) && (decide (r.c1 < 18446744073709551616) && decide (r.toS < 18446744073709551616))) && (decide (P.ents.length ≤ 100) && (decide (P.grp.length ≤ 100) && (decide (P.who.length ≤ 100) && (decide (P.up.length ≤ 100) && decide (P.rules.length ≤ 100)))))))
theorem wd_of {P : PolP} (h : wdB P = true) : PolWd P := by
  unfold wdB at h
  simp only [Bool.and_eq_true, decide_eq_true_eq] at h
  obtain ⟨h1, h2, h3, h4, h5, h6, h7, h8⟩ := h
  refine ⟨fun g m => of_decide_eq_true (List.all_eq_true.1 h1 g m), fun x m => ?_, ruleW_all h3, by omega, by omega, by omega, by omega, by omega⟩
  have := List.all_eq_true.1 h2 x m
  rw [Bool.and_eq_true, decide_eq_true_eq, decide_eq_true_eq] at this
  exact this
/-- Policies that are not right: each differs from the small one in one place. -/
def badP (k : Nat) : PolP := match k with
  | 0 => { smallP [] with ents := [⟨1, 0, -1, 9999⟩, ⟨2, 0, 0, 5000⟩] }
  | 1 => { smallP [] with ents := [⟨1, 0, -1, 10000⟩, ⟨2, 0, 1, 5000⟩] }
  | 2 => { smallP [] with ents := [⟨1, 0, -1, 10000⟩, ⟨2, 5, 0, 5000⟩] }
  | 3 => { smallP [] with grp := [4] }
  | 4 => { smallP [] with grp := [0] }
  | 5 => { smallP [] with who := [] }
  | 6 => { smallP [] with who := [⟨3, 4, 1⟩, ⟨1, 1, 0⟩] }
  | 7 => { smallP [] with up := [0] }
  | 8 => smallP [⟨1, 1, 1, -1, 0, 0, false, 0, 0, 0, 0, 0⟩]
  | 9 => smallP [⟨3, 0, 0, -1, 0, 0, false, 1, 0, 3, 0, 0⟩]
  | _ => smallP [⟨1, 0, 1, 2, 0, 0, false, 0, 0, 0, 0, 0⟩]
set_option maxRecDepth 100000 in
set_option maxHeartbeats 25600000 in
theorem ruleKnown_c (w : World) : Calls Try.prog 3 #[] w (RetB w true) := by
  have HSM := Lib.hid (fun V : World => small_c V)
  have HKN := Lib.hid (fun V : World => known_c V)
  go_enter Try.func3, Try.ntmps3
  go_wp2_with fail
  (with_reducible refine (HSM.out _).mono ?_)
  rintro e w1 ⟨g, hg, rfl, hS, hb⟩
  have HB1 := Lib.hid hb
  have HS1 := Lib.hid hS
  have hgl : g + 4 < w1.heap.size := hS.2.2.2.lt
  clear hb hS
  obtain ⟨gq, hgq⟩ : ∃ x, w1.heap.size = x := ⟨_, rfl⟩
  obtain ⟨W2, hW2⟩ : ∃ V, w1.alloc (.cells #[.slice (some ⟨g + 1, 0, none⟩) 2 2, .slice (some ⟨g + 2, 0, none⟩) 1 1, .slice (some ⟨g + 3, 0, none⟩) 2 2, .slice (some ⟨g + 4, 0, none⟩) 1 1, .slice none 0 0] 28) = V := ⟨_, rfl⟩
  have HP2 := Lib.hid (show Blk W2 gq 28 #[.slice (some ⟨g + 1, 0, none⟩) 2 2, .slice (some ⟨g + 2, 0, none⟩) 1 1, .slice (some ⟨g + 3, 0, none⟩) 2 2, .slice (some ⟨g + 4, 0, none⟩) 1 1, .slice none 0 0] from by rw [← hW2, ← hgq]; exact Blk.new _ _ _)
  have HX2 := Lib.hid (show Below w1.heap.size w1 W2 from by rw [← hW2]; exact bel_alloc (Below.refl _ _) _)
  have HB2 := Lib.hid (HB1.out.trans (HX2.out.mono HB1.out.size))
  have HS2 := Lib.hid (HS1.out.below HX2.out)
  have HW2 := Lib.hid hW2
  have HGQ := Lib.hid hgq
  clear hW2 hgq
  go_wp2_with fail
  rw [HGQ.out, HW2.out]
  (with_reducible refine (refOf_c 100 0 _ (by omega) (by omega) (by omega) (by omega)).mono ?_)
  rintro e w3 ⟨vv, hd, rfl, hb⟩
  have hd2 : vv = .agg #[.bool false, .int .u64 100, .int .u64 0, .int .i64 0] := of_small (z := 100) hd (by omega)
  subst hd2
  have HB3 := Lib.hid (HB2.out.trans (hb.mono HB2.out.size))
  have HQ3 := Lib.hid (HP2.out.below hb HP2.out.lt)
  have HS3 := Lib.hid (HS2.out.below hb)
  clear hb hd HW2 HP2 HS2
  obtain ⟨l2, y0, y1, y2, y3, y4⟩ := pol5 HQ3.out
  have f4 := HQ3.out.frozen 4
  obtain ⟨gr, hgr⟩ : ∃ x, w3.heap.size = x := ⟨_, rfl⟩
  obtain ⟨W4, hW4⟩ : ∃ V, (w3.setCell ⟨gq, 4, none⟩ (.slice (some ⟨gr, 0, none⟩) 5 5)).alloc (.cells #[.int .i64 1, .int .i64 0, .int .i64 1, .int .i64 (-1), .int .i64 0, .int .i64 0, .bool false, .int .u64 0, .int .u64 0, .int .i64 0, .int .u64 0, .int .i64 0, .int .i64 2, .int .i64 0, .int .i64 1, .int .i64 1, .int .i64 0, .int .i64 0, .bool false, .int .u64 0, .int .u64 0, .int .i64 0, .int .u64 0, .int .i64 0, .int .i64 2, .int .i64 0, .int .i64 2, .int .i64 (-1), .int .i64 0, .int .i64 0, .bool false, .int .u64 0, .int .u64 0, .int .i64 0, .int .u64 0, .int .i64 0, .int .i64 1, .int .i64 0, .int .i64 2, .int .i64 1, .int .i64 0, .int .i64 0, .bool false, .int .u64 0, .int .u64 0, .int .i64 0, .int .u64 0, .int .i64 0, .int .i64 3, .int .i64 0, .int .i64 0, .int .i64 (-1), .int .i64 0, .int .i64 0, .bool false, .int .u64 100, .int .u64 0, .int .i64 0, .int .u64 0, .int .i64 0] 37) = V := ⟨_, rfl⟩
  have HX4 := Lib.hid (show Below w.heap.size w W4 from by rw [← hW4]; exact bel_alloc (HB3.out.setCell (p := ⟨gq, 4, none⟩) (by have := HB1.out.size; have := HGQ.out; show w.heap.size ≤ gq; omega) _) _)
  have HP4 := Lib.hid (show Blk W4 gq 28 #[.slice (some ⟨g + 1, 0, none⟩) 2 2, .slice (some ⟨g + 2, 0, none⟩) 1 1, .slice (some ⟨g + 3, 0, none⟩) 2 2, .slice (some ⟨g + 4, 0, none⟩) 1 1, .slice (some ⟨gr, 0, none⟩) 5 5] from by rw [← hW4]; have h := (HQ3.out.set_ 4 (.slice (some ⟨gr, 0, none⟩) 5 5)).alloc (.cells #[.int .i64 1, .int .i64 0, .int .i64 1, .int .i64 (-1), .int .i64 0, .int .i64 0, .bool false, .int .u64 0, .int .u64 0, .int .i64 0, .int .u64 0, .int .i64 0, .int .i64 2, .int .i64 0, .int .i64 1, .int .i64 1, .int .i64 0, .int .i64 0, .bool false, .int .u64 0, .int .u64 0, .int .i64 0, .int .u64 0, .int .i64 0, .int .i64 2, .int .i64 0, .int .i64 2, .int .i64 (-1), .int .i64 0, .int .i64 0, .bool false, .int .u64 0, .int .u64 0, .int .i64 0, .int .u64 0, .int .i64 0, .int .i64 1, .int .i64 0, .int .i64 2, .int .i64 1, .int .i64 0, .int .i64 0, .bool false, .int .u64 0, .int .u64 0, .int .i64 0, .int .u64 0, .int .i64 0, .int .i64 3, .int .i64 0, .int .i64 0, .int .i64 (-1), .int .i64 0, .int .i64 0, .bool false, .int .u64 100, .int .u64 0, .int .i64 0, .int .u64 0, .int .i64 0] 37); simpa using h)
  have HS4 := Lib.hid (show SmB W4 g from by rw [← hW4]; exact (HS3.out.far (p := ⟨gq, 4, none⟩) (by have := HGQ.out; show g + 4 < gq; omega) _).below (bel_alloc (Below.refl _ _) _))
  have HR4 := Lib.hid (show Blk W4 gr 37 #[.int .i64 1, .int .i64 0, .int .i64 1, .int .i64 (-1), .int .i64 0, .int .i64 0, .bool false, .int .u64 0, .int .u64 0, .int .i64 0, .int .u64 0, .int .i64 0, .int .i64 2, .int .i64 0, .int .i64 1, .int .i64 1, .int .i64 0, .int .i64 0, .bool false, .int .u64 0, .int .u64 0, .int .i64 0, .int .u64 0, .int .i64 0, .int .i64 2, .int .i64 0, .int .i64 2, .int .i64 (-1), .int .i64 0, .int .i64 0, .bool false, .int .u64 0, .int .u64 0, .int .i64 0, .int .u64 0, .int .i64 0, .int .i64 1, .int .i64 0, .int .i64 2, .int .i64 1, .int .i64 0, .int .i64 0, .bool false, .int .u64 0, .int .u64 0, .int .i64 0, .int .u64 0, .int .i64 0, .int .i64 3, .int .i64 0, .int .i64 0, .int .i64 (-1), .int .i64 0, .int .i64 0, .bool false, .int .u64 100, .int .u64 0, .int .i64 0, .int .u64 0, .int .i64 0] from by rw [← hW4]; exact blk_at (by simp; exact hgr))
  have HW4 := Lib.hid hW4
  have HGR := Lib.hid hgr
  clear hW4 hgr
  go_upto_region 3 with fail
  rw [HGR.out, HW4.out]
  clear l2 y0 y1 y2 y3 y4 f4 HW4 HS3 HQ3 HX2
  have HPR := Lib.hid (fun (V : World) (hb : Below W4.heap.size W4 V) => ((HS4.out.below hb).rd (B := W4.heap.size) (by have := HS4.out.2.2.2.lt; exact this) (Ar := some ⟨gr, 0, none⟩) (cr := 5) (L := rules5) (blk_rd (HR4.out.below hb HR4.out.lt) HR4.out.lt rfl)).more hb.size)
  have hwd := Lib.hid (wd_of (P := smallP rules5) (by decide +kernel))
  have HRT := Lib.hid (right_dec (smallP rules5) true (by decide +kernel))
  have HRI := Lib.hid (fun (V : World) (hb : Below W4.heap.size W4 V) => show Calls Try.prog 7 #[.agg #[.slice (some ⟨g + 1, 0, none⟩) 2 2, .slice (some ⟨g + 2, 0, none⟩) 1 1, .slice (some ⟨g + 3, 0, none⟩) 2 2, .slice (some ⟨g + 4, 0, none⟩) 1 1, .slice (some ⟨gr, 0, none⟩) 5 5]] V (RetB V true) from ruRight_c (smS g (some ⟨gr, 0, none⟩) 5) (smallP rules5) V 2 1 2 1 5 (HPR.out V hb) hwd.out rfl rfl rfl rfl rfl true HRT.out)
  have HM1 := Lib.hid (fun (V : World) (hb : Below W4.heap.size W4 V) => show Calls Try.prog 8 #[.agg #[.slice (some ⟨g + 1, 0, none⟩) 2 2, .slice (some ⟨g + 2, 0, none⟩) 1 1, .slice (some ⟨g + 3, 0, none⟩) 2 2, .slice (some ⟨g + 4, 0, none⟩) 1 1, .slice (some ⟨gr, 0, none⟩) 5 5], .int .i64 0, .int .i64 1, .int .i64 0] V (RetB V true) from ruMay_c (smS g (some ⟨gr, 0, none⟩) 5) (smallP rules5) V 2 1 2 1 5 (HPR.out V hb) hwd.out rfl rfl rfl rfl rfl true HRT.out 0 1 0 true (by decide +kernel))
  have HM2 := Lib.hid (fun (V : World) (hb : Below W4.heap.size W4 V) => show Calls Try.prog 8 #[.agg #[.slice (some ⟨g + 1, 0, none⟩) 2 2, .slice (some ⟨g + 2, 0, none⟩) 1 1, .slice (some ⟨g + 3, 0, none⟩) 2 2, .slice (some ⟨g + 4, 0, none⟩) 1 1, .slice (some ⟨gr, 0, none⟩) 5 5], .int .i64 0, .int .i64 1, .int .i64 1] V (RetB V false) from ruMay_c (smS g (some ⟨gr, 0, none⟩) 5) (smallP rules5) V 2 1 2 1 5 (HPR.out V hb) hwd.out rfl rfl rfl rfl rfl true HRT.out 0 1 1 false (by decide +kernel))
  have HM3 := Lib.hid (fun (V : World) (hb : Below W4.heap.size W4 V) => show Calls Try.prog 8 #[.agg #[.slice (some ⟨g + 1, 0, none⟩) 2 2, .slice (some ⟨g + 2, 0, none⟩) 1 1, .slice (some ⟨g + 3, 0, none⟩) 2 2, .slice (some ⟨g + 4, 0, none⟩) 1 1, .slice (some ⟨gr, 0, none⟩) 5 5], .int .i64 0, .int .i64 2, .int .i64 0] V (RetB V false) from ruMay_c (smS g (some ⟨gr, 0, none⟩) 5) (smallP rules5) V 2 1 2 1 5 (HPR.out V hb) hwd.out rfl rfl rfl rfl rfl true HRT.out 0 2 0 false (by decide +kernel))
  have HM4 := Lib.hid (fun (V : World) (hb : Below W4.heap.size W4 V) => show Calls Try.prog 8 #[.agg #[.slice (some ⟨g + 1, 0, none⟩) 2 2, .slice (some ⟨g + 2, 0, none⟩) 1 1, .slice (some ⟨g + 3, 0, none⟩) 2 2, .slice (some ⟨g + 4, 0, none⟩) 1 1, .slice (some ⟨gr, 0, none⟩) 5 5], .int .i64 0, .int .i64 2, .int .i64 1] V (RetB V true) from ruMay_c (smS g (some ⟨gr, 0, none⟩) 5) (smallP rules5) V 2 1 2 1 5 (HPR.out V hb) hwd.out rfl rfl rfl rfl rfl true HRT.out 0 2 1 true (by decide +kernel))
  have HM5 := Lib.hid (fun (V : World) (hb : Below W4.heap.size W4 V) => show Calls Try.prog 8 #[.agg #[.slice (some ⟨g + 1, 0, none⟩) 2 2, .slice (some ⟨g + 2, 0, none⟩) 1 1, .slice (some ⟨g + 3, 0, none⟩) 2 2, .slice (some ⟨g + 4, 0, none⟩) 1 1, .slice (some ⟨gr, 0, none⟩) 5 5], .int .i64 0, .int .i64 3, .int .i64 0] V (RetB V false) from ruMay_c (smS g (some ⟨gr, 0, none⟩) 5) (smallP rules5) V 2 1 2 1 5 (HPR.out V hb) hwd.out rfl rfl rfl rfl rfl true HRT.out 0 3 0 false (by decide +kernel))
  have HM6 := Lib.hid (fun (V : World) (hb : Below W4.heap.size W4 V) => show Calls Try.prog 8 #[.agg #[.slice (some ⟨g + 1, 0, none⟩) 2 2, .slice (some ⟨g + 2, 0, none⟩) 1 1, .slice (some ⟨g + 3, 0, none⟩) 2 2, .slice (some ⟨g + 4, 0, none⟩) 1 1, .slice (some ⟨gr, 0, none⟩) 5 5], .int .i64 2, .int .i64 1, .int .i64 0] V (RetB V false) from ruMay_c (smS g (some ⟨gr, 0, none⟩) 5) (smallP rules5) V 2 1 2 1 5 (HPR.out V hb) hwd.out rfl rfl rfl rfl rfl true HRT.out 2 1 0 false (by decide +kernel))
  have HM7 := Lib.hid (fun (V : World) (hb : Below W4.heap.size W4 V) => show Calls Try.prog 8 #[.agg #[.slice (some ⟨g + 1, 0, none⟩) 2 2, .slice (some ⟨g + 2, 0, none⟩) 1 1, .slice (some ⟨g + 3, 0, none⟩) 2 2, .slice (some ⟨g + 4, 0, none⟩) 1 1, .slice (some ⟨gr, 0, none⟩) 5 5], .int .i64 0, .int .i64 1, .int .i64 2] V (RetB V false) from ruMay_c (smS g (some ⟨gr, 0, none⟩) 5) (smallP rules5) V 2 1 2 1 5 (HPR.out V hb) hwd.out rfl rfl rfl rfl rfl true HRT.out 0 1 2 false (by decide +kernel))
  have HL1 := Lib.hid (fun (V : World) (hb : Below W4.heap.size W4 V) => show Calls Try.prog 9 #[.agg #[.slice (some ⟨g + 1, 0, none⟩) 2 2, .slice (some ⟨g + 2, 0, none⟩) 1 1, .slice (some ⟨g + 3, 0, none⟩) 2 2, .slice (some ⟨g + 4, 0, none⟩) 1 1, .slice (some ⟨gr, 0, none⟩) 5 5], .int .i64 1] V (RetL V 2 2) from ruLabel_c (smS g (some ⟨gr, 0, none⟩) 5) (smallP rules5) V 2 1 2 1 5 (HPR.out V hb) hwd.out rfl rfl rfl rfl rfl true HRT.out 1 2 2 (by decide +kernel))
  have HL0 := Lib.hid (fun (V : World) (hb : Below W4.heap.size W4 V) => show Calls Try.prog 9 #[.agg #[.slice (some ⟨g + 1, 0, none⟩) 2 2, .slice (some ⟨g + 2, 0, none⟩) 1 1, .slice (some ⟨g + 3, 0, none⟩) 2 2, .slice (some ⟨g + 4, 0, none⟩) 1 1, .slice (some ⟨gr, 0, none⟩) 5 5], .int .i64 0] V (RetL V 1 1) from ruLabel_c (smS g (some ⟨gr, 0, none⟩) 5) (smallP rules5) V 2 1 2 1 5 (HPR.out V hb) hwd.out rfl rfl rfl rfl rfl true HRT.out 0 1 1 (by decide +kernel))
  have HLN := Lib.hid (fun (V : World) (hb : Below W4.heap.size W4 V) => show Calls Try.prog 9 #[.agg #[.slice (some ⟨g + 1, 0, none⟩) 2 2, .slice (some ⟨g + 2, 0, none⟩) 1 1, .slice (some ⟨g + 3, 0, none⟩) 2 2, .slice (some ⟨g + 4, 0, none⟩) 1 1, .slice (some ⟨gr, 0, none⟩) 5 5], .int .i64 (-1)] V (RetL V 0 0) from ruLabel_c (smS g (some ⟨gr, 0, none⟩) 5) (smallP rules5) V 2 1 2 1 5 (HPR.out V hb) hwd.out rfl rfl rfl rfl rfl true HRT.out (-1) 0 0 (by decide +kernel))
  have HG0 := Lib.hid (fun (V : World) (hb : Below W4.heap.size W4 V) => show Calls Try.prog 10 #[.agg #[.slice (some ⟨g + 1, 0, none⟩) 2 2, .slice (some ⟨g + 2, 0, none⟩) 1 1, .slice (some ⟨g + 3, 0, none⟩) 2 2, .slice (some ⟨g + 4, 0, none⟩) 1 1, .slice (some ⟨gr, 0, none⟩) 5 5], .int .i64 0] V (RetL V 3 2) from ruGroup_c (smS g (some ⟨gr, 0, none⟩) 5) (smallP rules5) V 2 1 2 1 5 (HPR.out V hb) hwd.out rfl rfl rfl rfl rfl true HRT.out 0 3 2 (by decide +kernel))
  have HG1 := Lib.hid (fun (V : World) (hb : Below W4.heap.size W4 V) => show Calls Try.prog 10 #[.agg #[.slice (some ⟨g + 1, 0, none⟩) 2 2, .slice (some ⟨g + 2, 0, none⟩) 1 1, .slice (some ⟨g + 3, 0, none⟩) 2 2, .slice (some ⟨g + 4, 0, none⟩) 1 1, .slice (some ⟨gr, 0, none⟩) 5 5], .int .i64 1] V (RetL V 0 0) from ruGroup_c (smS g (some ⟨gr, 0, none⟩) 5) (smallP rules5) V 2 1 2 1 5 (HPR.out V hb) hwd.out rfl rfl rfl rfl rfl true HRT.out 1 0 0 (by decide +kernel))
  have HE0 := Lib.hid (fun (V : World) (hb : Below W4.heap.size W4 V) => show Calls Try.prog 11 #[.agg #[.slice (some ⟨g + 1, 0, none⟩) 2 2, .slice (some ⟨g + 2, 0, none⟩) 1 1, .slice (some ⟨g + 3, 0, none⟩) 2 2, .slice (some ⟨g + 4, 0, none⟩) 1 1, .slice (some ⟨gr, 0, none⟩) 5 5], .int .i64 0, .agg #[.int .u64 3, .int .i64 2]] V (RetB V true) from ruSees_c (smS g (some ⟨gr, 0, none⟩) 5) (smallP rules5) V 2 1 2 1 5 (HPR.out V hb) hwd.out rfl rfl rfl rfl rfl true HRT.out 0 3 2 (by decide) true (by decide +kernel))
  have HE1 := Lib.hid (fun (V : World) (hb : Below W4.heap.size W4 V) => show Calls Try.prog 11 #[.agg #[.slice (some ⟨g + 1, 0, none⟩) 2 2, .slice (some ⟨g + 2, 0, none⟩) 1 1, .slice (some ⟨g + 3, 0, none⟩) 2 2, .slice (some ⟨g + 4, 0, none⟩) 1 1, .slice (some ⟨gr, 0, none⟩) 5 5], .int .i64 1, .agg #[.int .u64 3, .int .i64 2]] V (RetB V false) from ruSees_c (smS g (some ⟨gr, 0, none⟩) 5) (smallP rules5) V 2 1 2 1 5 (HPR.out V hb) hwd.out rfl rfl rfl rfl rfl true HRT.out 1 3 2 (by decide) false (by decide +kernel))
  have HE2 := Lib.hid (fun (V : World) (hb : Below W4.heap.size W4 V) => show Calls Try.prog 11 #[.agg #[.slice (some ⟨g + 1, 0, none⟩) 2 2, .slice (some ⟨g + 2, 0, none⟩) 1 1, .slice (some ⟨g + 3, 0, none⟩) 2 2, .slice (some ⟨g + 4, 0, none⟩) 1 1, .slice (some ⟨gr, 0, none⟩) 5 5], .int .i64 1, .agg #[.int .u64 1, .int .i64 1]] V (RetB V true) from ruSees_c (smS g (some ⟨gr, 0, none⟩) 5) (smallP rules5) V 2 1 2 1 5 (HPR.out V hb) hwd.out rfl rfl rfl rfl rfl true HRT.out 1 1 1 (by decide) true (by decide +kernel))
  have HF0 := Lib.hid (fun (V : World) (hb : Below W4.heap.size W4 V) => show Calls Try.prog 12 #[.agg #[.slice (some ⟨g + 1, 0, none⟩) 2 2, .slice (some ⟨g + 2, 0, none⟩) 1 1, .slice (some ⟨g + 3, 0, none⟩) 2 2, .slice (some ⟨g + 4, 0, none⟩) 1 1, .slice (some ⟨gr, 0, none⟩) 5 5], .int .i64 0, .int .i64 4] V (RetB V true) from ruRel_c2 (smS g (some ⟨gr, 0, none⟩) 5) (smallP rules5) V 2 1 2 1 5 (HPR.out V hb) hwd.out rfl rfl rfl rfl rfl true HRT.out 0 4 true (by decide +kernel))
  have HF1 := Lib.hid (fun (V : World) (hb : Below W4.heap.size W4 V) => show Calls Try.prog 12 #[.agg #[.slice (some ⟨g + 1, 0, none⟩) 2 2, .slice (some ⟨g + 2, 0, none⟩) 1 1, .slice (some ⟨g + 3, 0, none⟩) 2 2, .slice (some ⟨g + 4, 0, none⟩) 1 1, .slice (some ⟨gr, 0, none⟩) 5 5], .int .i64 1, .int .i64 4] V (RetB V false) from ruRel_c2 (smS g (some ⟨gr, 0, none⟩) 5) (smallP rules5) V 2 1 2 1 5 (HPR.out V hb) hwd.out rfl rfl rfl rfl rfl true HRT.out 1 4 false (by decide +kernel))
  have HF2 := Lib.hid (fun (V : World) (hb : Below W4.heap.size W4 V) => show Calls Try.prog 12 #[.agg #[.slice (some ⟨g + 1, 0, none⟩) 2 2, .slice (some ⟨g + 2, 0, none⟩) 1 1, .slice (some ⟨g + 3, 0, none⟩) 2 2, .slice (some ⟨g + 4, 0, none⟩) 1 1, .slice (some ⟨gr, 0, none⟩) 5 5], .int .i64 0, .int .i64 0] V (RetB V false) from ruRel_c2 (smS g (some ⟨gr, 0, none⟩) 5) (smallP rules5) V 2 1 2 1 5 (HPR.out V hb) hwd.out rfl rfl rfl rfl rfl true HRT.out 0 0 false (by decide +kernel))
  obtain ⟨l2, y0, y1, y2, y3, y4⟩ := pol5 HP4.out
  go_wp2_with fail
  (with_reducible refine (HKN.out _).mono ?_)
  rintro e x0 ⟨rfl, hb⟩
  have HZ0 := Lib.hid hb
  clear hb l2 y0 y1 y2 y3 y4
  obtain ⟨l2, y0, y1, y2, y3, y4⟩ := pol5 (HP4.out.below HZ0.out HP4.out.lt)
  go_wp2_with fail
  (with_reducible refine (HRI.out _ HZ0.out).mono ?_)
  rintro e x1 ⟨rfl, hb⟩
  have HZ1 := Lib.hid (HZ0.out.trans (hb.mono HZ0.out.size))
  clear hb l2 y0 y1 y2 y3 y4
  obtain ⟨l2, y0, y1, y2, y3, y4⟩ := pol5 (HP4.out.below HZ1.out HP4.out.lt)
  go_wp2_with fail
  (with_reducible refine (HM1.out _ HZ1.out).mono ?_)
  rintro e x2 ⟨rfl, hb⟩
  have HZ2 := Lib.hid (HZ1.out.trans (hb.mono HZ1.out.size))
  clear hb l2 y0 y1 y2 y3 y4
  obtain ⟨l2, y0, y1, y2, y3, y4⟩ := pol5 (HP4.out.below HZ2.out HP4.out.lt)
  go_wp2_with fail
  (with_reducible refine (HM2.out _ HZ2.out).mono ?_)
  rintro e x3 ⟨rfl, hb⟩
  have HZ3 := Lib.hid (HZ2.out.trans (hb.mono HZ2.out.size))
  clear hb l2 y0 y1 y2 y3 y4
  obtain ⟨l2, y0, y1, y2, y3, y4⟩ := pol5 (HP4.out.below HZ3.out HP4.out.lt)
  go_wp2_with fail
  (with_reducible refine (HM3.out _ HZ3.out).mono ?_)
  rintro e x4 ⟨rfl, hb⟩
  have HZ4 := Lib.hid (HZ3.out.trans (hb.mono HZ3.out.size))
  clear hb l2 y0 y1 y2 y3 y4
  obtain ⟨l2, y0, y1, y2, y3, y4⟩ := pol5 (HP4.out.below HZ4.out HP4.out.lt)
  go_wp2_with fail
  (with_reducible refine (HM4.out _ HZ4.out).mono ?_)
  rintro e x5 ⟨rfl, hb⟩
  have HZ5 := Lib.hid (HZ4.out.trans (hb.mono HZ4.out.size))
  clear hb l2 y0 y1 y2 y3 y4
  obtain ⟨l2, y0, y1, y2, y3, y4⟩ := pol5 (HP4.out.below HZ5.out HP4.out.lt)
  go_wp2_with fail
  (with_reducible refine (HM5.out _ HZ5.out).mono ?_)
  rintro e x6 ⟨rfl, hb⟩
  have HZ6 := Lib.hid (HZ5.out.trans (hb.mono HZ5.out.size))
  clear hb l2 y0 y1 y2 y3 y4
  obtain ⟨l2, y0, y1, y2, y3, y4⟩ := pol5 (HP4.out.below HZ6.out HP4.out.lt)
  go_wp2_with fail
  (with_reducible refine (HM6.out _ HZ6.out).mono ?_)
  rintro e x7 ⟨rfl, hb⟩
  have HZ7 := Lib.hid (HZ6.out.trans (hb.mono HZ6.out.size))
  clear hb l2 y0 y1 y2 y3 y4
  obtain ⟨l2, y0, y1, y2, y3, y4⟩ := pol5 (HP4.out.below HZ7.out HP4.out.lt)
  go_wp2_with fail
  (with_reducible refine (HM7.out _ HZ7.out).mono ?_)
  rintro e x8 ⟨rfl, hb⟩
  have HZ8 := Lib.hid (HZ7.out.trans (hb.mono HZ7.out.size))
  clear hb l2 y0 y1 y2 y3 y4
  obtain ⟨l2, y0, y1, y2, y3, y4⟩ := pol5 (HP4.out.below HZ8.out HP4.out.lt)
  go_upto_region 5 with fail
  clear l2 y0 y1 y2 y3 y4
  go_cut [104] (fun v wx => v = .bool false ∧ Below w.heap.size w wx)
  case first =>
    as_aux_lemma =>
    have HZ := Lib.hid HZ8.out
    refine wp_region_det (S := fun V => Below W4.heap.size W4 V) (by kernel_rfl) HZ.out.drew ?_
    refine det_take (v := ?_) (i := 0) (fuel := 54) (by simp; rfl) (by kernel_rfl) (by kernel_rfl) (by kernel_rfl) (Or.inl ⟨by rfl, fun w' hS => Or.inl ⟨w', ?_, hS⟩⟩) ?_
    rotate_left
    · obtain ⟨l2, y0, y1, y2, y3, y4⟩ := pol5 (HP4.out.below hS HP4.out.lt)
      go_simp
      all_goals with_reducible rfl
    simp only [Act.put, List.setIfInBounds_toArray, List.set_cons_zero, List.set_cons_succ]
    refine det_take (v := ?_) (i := 1) (fuel := 53) (by simp; rfl) (by kernel_rfl) (by kernel_rfl) (by kernel_rfl) (Or.inl ⟨by rfl, fun w' hS => Or.inr ⟨9, #[.agg #[.slice (some ⟨g + 1, 0, none⟩) 2 2, .slice (some ⟨g + 2, 0, none⟩) 1 1, .slice (some ⟨g + 3, 0, none⟩) 2 2, .slice (some ⟨g + 4, 0, none⟩) 1 1, .slice (some ⟨gr, 0, none⟩) 5 5], .int .i64 1], w', ?_, ?_⟩⟩) ?_
    rotate_left
    · go_simp
      all_goals with_reducible rfl
    · exact (HL1.out w' hS).mono fun e w2 h => ⟨by rw [h.1], hS.trans (h.2.mono hS.size)⟩
    simp only [Act.put, List.setIfInBounds_toArray, List.set_cons_zero, List.set_cons_succ]
    refine det_take (v := ?_) (i := 2) (fuel := 52) (by simp; rfl) (by kernel_rfl) (by kernel_rfl) (by kernel_rfl) (Or.inl ⟨by rfl, fun w' hS => Or.inl ⟨w', ?_, hS⟩⟩) ?_
    rotate_left
    · go_simp
      all_goals with_reducible rfl
    simp only [Act.put, List.setIfInBounds_toArray, List.set_cons_zero, List.set_cons_succ]
    refine det_take (v := ?_) (i := 3) (fuel := 51) (by simp; rfl) (by kernel_rfl) (by kernel_rfl) (by kernel_rfl) (Or.inl ⟨by rfl, fun w' hS => Or.inl ⟨w', ?_, hS⟩⟩) ?_
    rotate_left
    · go_simp
      all_goals with_reducible rfl
    simp only [Act.put, List.setIfInBounds_toArray, List.set_cons_zero, List.set_cons_succ]
    refine det_take (v := ?_) (i := 4) (fuel := 50) (by simp; rfl) (by kernel_rfl) (by kernel_rfl) (by kernel_rfl) (Or.inl ⟨by rfl, fun w' hS => Or.inl ⟨w', ?_, hS⟩⟩) ?_
    rotate_left
    · go_simp
      all_goals with_reducible rfl
    simp only [Act.put, List.setIfInBounds_toArray, List.set_cons_zero, List.set_cons_succ]
    refine det_take (v := ?_) (i := 5) (fuel := 49) (by simp; rfl) (by kernel_rfl) (by kernel_rfl) (by kernel_rfl) (Or.inl ⟨by rfl, fun w' hS => Or.inl ⟨w', ?_, hS⟩⟩) ?_
    rotate_left
    · obtain ⟨l2, y0, y1, y2, y3, y4⟩ := pol5 (HP4.out.below hS HP4.out.lt)
      go_simp
      all_goals with_reducible rfl
    simp only [Act.put, List.setIfInBounds_toArray, List.set_cons_zero, List.set_cons_succ]
    refine det_take (v := ?_) (i := 6) (fuel := 48) (by simp; rfl) (by kernel_rfl) (by kernel_rfl) (by kernel_rfl) (Or.inl ⟨by rfl, fun w' hS => Or.inr ⟨10, #[.agg #[.slice (some ⟨g + 1, 0, none⟩) 2 2, .slice (some ⟨g + 2, 0, none⟩) 1 1, .slice (some ⟨g + 3, 0, none⟩) 2 2, .slice (some ⟨g + 4, 0, none⟩) 1 1, .slice (some ⟨gr, 0, none⟩) 5 5], .int .i64 0], w', ?_, ?_⟩⟩) ?_
    rotate_left
    · go_simp
      all_goals with_reducible rfl
    · exact (HG0.out w' hS).mono fun e w2 h => ⟨by rw [h.1], hS.trans (h.2.mono hS.size)⟩
    simp only [Act.put, List.setIfInBounds_toArray, List.set_cons_zero, List.set_cons_succ]
    refine det_take (v := ?_) (i := 7) (fuel := 47) (by simp; rfl) (by kernel_rfl) (by kernel_rfl) (by kernel_rfl) (Or.inl ⟨by rfl, fun w' hS => Or.inl ⟨w', ?_, hS⟩⟩) ?_
    rotate_left
    · go_simp
      all_goals with_reducible rfl
    simp only [Act.put, List.setIfInBounds_toArray, List.set_cons_zero, List.set_cons_succ]
    refine det_take (v := ?_) (i := 8) (fuel := 46) (by simp; rfl) (by kernel_rfl) (by kernel_rfl) (by kernel_rfl) (Or.inl ⟨by rfl, fun w' hS => Or.inl ⟨w', ?_, hS⟩⟩) ?_
    rotate_left
    · go_simp
      all_goals with_reducible rfl
    simp only [Act.put, List.setIfInBounds_toArray, List.set_cons_zero, List.set_cons_succ]
    refine det_take (v := ?_) (i := 9) (fuel := 45) (by simp; rfl) (by kernel_rfl) (by kernel_rfl) (by kernel_rfl) (Or.inl ⟨by rfl, fun w' hS => Or.inl ⟨w', ?_, hS⟩⟩) ?_
    rotate_left
    · go_simp
      all_goals with_reducible rfl
    simp only [Act.put, List.setIfInBounds_toArray, List.set_cons_zero, List.set_cons_succ]
    refine det_take (v := ?_) (i := 10) (fuel := 44) (by simp; rfl) (by kernel_rfl) (by kernel_rfl) (by kernel_rfl) (Or.inl ⟨by rfl, fun w' hS => Or.inl ⟨w', ?_, hS⟩⟩) ?_
    rotate_left
    · go_simp
      all_goals with_reducible rfl
    simp only [Act.put, List.setIfInBounds_toArray, List.set_cons_zero, List.set_cons_succ]
    refine det_take (v := ?_) (i := 11) (fuel := 43) (by simp; rfl) (by kernel_rfl) (by kernel_rfl) (by kernel_rfl) (Or.inl ⟨by rfl, fun w' hS => Or.inl ⟨w', ?_, hS⟩⟩) ?_
    rotate_left
    · obtain ⟨l2, y0, y1, y2, y3, y4⟩ := pol5 (HP4.out.below hS HP4.out.lt)
      go_simp
      all_goals with_reducible rfl
    simp only [Act.put, List.setIfInBounds_toArray, List.set_cons_zero, List.set_cons_succ]
    refine det_take (v := ?_) (i := 12) (fuel := 42) (by simp; rfl) (by kernel_rfl) (by kernel_rfl) (by kernel_rfl) (Or.inl ⟨by rfl, fun w' hS => Or.inl ⟨w', ?_, hS⟩⟩) ?_
    rotate_left
    · obtain ⟨l2, y0, y1, y2, y3, y4⟩ := pol5 (HP4.out.below hS HP4.out.lt)
      go_simp
      all_goals with_reducible rfl
    simp only [Act.put, List.setIfInBounds_toArray, List.set_cons_zero, List.set_cons_succ]
    refine det_take (v := ?_) (i := 13) (fuel := 41) (by simp; rfl) (by kernel_rfl) (by kernel_rfl) (by kernel_rfl) (Or.inl ⟨by rfl, fun w' hS => Or.inr ⟨10, #[.agg #[.slice (some ⟨g + 1, 0, none⟩) 2 2, .slice (some ⟨g + 2, 0, none⟩) 1 1, .slice (some ⟨g + 3, 0, none⟩) 2 2, .slice (some ⟨g + 4, 0, none⟩) 1 1, .slice (some ⟨gr, 0, none⟩) 5 5], .int .i64 0], w', ?_, ?_⟩⟩) ?_
    rotate_left
    · go_simp
      all_goals with_reducible rfl
    · exact (HG0.out w' hS).mono fun e w2 h => ⟨by rw [h.1], hS.trans (h.2.mono hS.size)⟩
    simp only [Act.put, List.setIfInBounds_toArray, List.set_cons_zero, List.set_cons_succ]
    refine det_take (v := ?_) (i := 14) (fuel := 40) (by simp; rfl) (by kernel_rfl) (by kernel_rfl) (by kernel_rfl) (Or.inl ⟨by rfl, fun w' hS => Or.inr ⟨11, #[.agg #[.slice (some ⟨g + 1, 0, none⟩) 2 2, .slice (some ⟨g + 2, 0, none⟩) 1 1, .slice (some ⟨g + 3, 0, none⟩) 2 2, .slice (some ⟨g + 4, 0, none⟩) 1 1, .slice (some ⟨gr, 0, none⟩) 5 5], .int .i64 0, .agg #[.int .u64 3, .int .i64 2]], w', ?_, ?_⟩⟩) ?_
    rotate_left
    · go_simp
      all_goals with_reducible rfl
    · exact (HE0.out w' hS).mono fun e w2 h => ⟨by rw [h.1], hS.trans (h.2.mono hS.size)⟩
    simp only [Act.put, List.setIfInBounds_toArray, List.set_cons_zero, List.set_cons_succ]
    refine det_take (v := ?_) (i := 15) (fuel := 39) (by simp; rfl) (by kernel_rfl) (by kernel_rfl) (by kernel_rfl) (Or.inl ⟨by rfl, fun w' hS => Or.inl ⟨w', ?_, hS⟩⟩) ?_
    rotate_left
    · go_simp
      all_goals with_reducible rfl
    simp only [Act.put, List.setIfInBounds_toArray, List.set_cons_zero, List.set_cons_succ]
    refine det_take (v := ?_) (i := 16) (fuel := 38) (by simp; rfl) (by kernel_rfl) (by kernel_rfl) (by kernel_rfl) (Or.inl ⟨by rfl, fun w' hS => Or.inl ⟨w', ?_, hS⟩⟩) ?_
    rotate_left
    · go_simp
      all_goals with_reducible rfl
    simp only [Act.put, List.setIfInBounds_toArray, List.set_cons_zero, List.set_cons_succ]
    refine det_take (v := ?_) (i := 17) (fuel := 37) (by simp; rfl) (by kernel_rfl) (by kernel_rfl) (by kernel_rfl) (Or.inl ⟨by rfl, fun w' hS => Or.inl ⟨w', ?_, hS⟩⟩) ?_
    rotate_left
    · go_simp
      all_goals with_reducible rfl
    simp only [Act.put, List.setIfInBounds_toArray, List.set_cons_zero, List.set_cons_succ]
    refine det_take (v := ?_) (i := 18) (fuel := 36) (by simp; rfl) (by kernel_rfl) (by kernel_rfl) (by kernel_rfl) (Or.inl ⟨by rfl, fun w' hS => Or.inl ⟨w', ?_, hS⟩⟩) ?_
    rotate_left
    · obtain ⟨l2, y0, y1, y2, y3, y4⟩ := pol5 (HP4.out.below hS HP4.out.lt)
      go_simp
      all_goals with_reducible rfl
    simp only [Act.put, List.setIfInBounds_toArray, List.set_cons_zero, List.set_cons_succ]
    refine det_take (v := ?_) (i := 19) (fuel := 35) (by simp; rfl) (by kernel_rfl) (by kernel_rfl) (by kernel_rfl) (Or.inl ⟨by rfl, fun w' hS => Or.inl ⟨w', ?_, hS⟩⟩) ?_
    rotate_left
    · obtain ⟨l2, y0, y1, y2, y3, y4⟩ := pol5 (HP4.out.below hS HP4.out.lt)
      go_simp
      all_goals with_reducible rfl
    simp only [Act.put, List.setIfInBounds_toArray, List.set_cons_zero, List.set_cons_succ]
    refine det_take (v := ?_) (i := 20) (fuel := 34) (by simp; rfl) (by kernel_rfl) (by kernel_rfl) (by kernel_rfl) (Or.inl ⟨by rfl, fun w' hS => Or.inr ⟨10, #[.agg #[.slice (some ⟨g + 1, 0, none⟩) 2 2, .slice (some ⟨g + 2, 0, none⟩) 1 1, .slice (some ⟨g + 3, 0, none⟩) 2 2, .slice (some ⟨g + 4, 0, none⟩) 1 1, .slice (some ⟨gr, 0, none⟩) 5 5], .int .i64 0], w', ?_, ?_⟩⟩) ?_
    rotate_left
    · go_simp
      all_goals with_reducible rfl
    · exact (HG0.out w' hS).mono fun e w2 h => ⟨by rw [h.1], hS.trans (h.2.mono hS.size)⟩
    simp only [Act.put, List.setIfInBounds_toArray, List.set_cons_zero, List.set_cons_succ]
    refine det_take (v := ?_) (i := 21) (fuel := 33) (by simp; rfl) (by kernel_rfl) (by kernel_rfl) (by kernel_rfl) (Or.inl ⟨by rfl, fun w' hS => Or.inr ⟨11, #[.agg #[.slice (some ⟨g + 1, 0, none⟩) 2 2, .slice (some ⟨g + 2, 0, none⟩) 1 1, .slice (some ⟨g + 3, 0, none⟩) 2 2, .slice (some ⟨g + 4, 0, none⟩) 1 1, .slice (some ⟨gr, 0, none⟩) 5 5], .int .i64 1, .agg #[.int .u64 3, .int .i64 2]], w', ?_, ?_⟩⟩) ?_
    rotate_left
    · go_simp
      all_goals with_reducible rfl
    · exact (HE1.out w' hS).mono fun e w2 h => ⟨by rw [h.1], hS.trans (h.2.mono hS.size)⟩
    simp only [Act.put, List.setIfInBounds_toArray, List.set_cons_zero, List.set_cons_succ]
    refine det_take (v := ?_) (i := 22) (fuel := 32) (by simp; rfl) (by kernel_rfl) (by kernel_rfl) (by kernel_rfl) (Or.inl ⟨by rfl, fun w' hS => Or.inl ⟨w', ?_, hS⟩⟩) ?_
    rotate_left
    · go_simp
      all_goals with_reducible rfl
    simp only [Act.put, List.setIfInBounds_toArray, List.set_cons_zero, List.set_cons_succ]
    refine det_take (v := ?_) (i := 23) (fuel := 31) (by simp; rfl) (by kernel_rfl) (by kernel_rfl) (by kernel_rfl) (Or.inl ⟨by rfl, fun w' hS => Or.inl ⟨w', ?_, hS⟩⟩) ?_
    rotate_left
    · go_simp
      all_goals with_reducible rfl
    simp only [Act.put, List.setIfInBounds_toArray, List.set_cons_zero, List.set_cons_succ]
    refine det_take (v := ?_) (i := 24) (fuel := 30) (by simp; rfl) (by kernel_rfl) (by kernel_rfl) (by kernel_rfl) (Or.inl ⟨by rfl, fun w' hS => Or.inl ⟨w', ?_, hS⟩⟩) ?_
    rotate_left
    · obtain ⟨l2, y0, y1, y2, y3, y4⟩ := pol5 (HP4.out.below hS HP4.out.lt)
      go_simp
      all_goals with_reducible rfl
    simp only [Act.put, List.setIfInBounds_toArray, List.set_cons_zero, List.set_cons_succ]
    refine det_take (v := ?_) (i := 25) (fuel := 29) (by simp; rfl) (by kernel_rfl) (by kernel_rfl) (by kernel_rfl) (Or.inl ⟨by rfl, fun w' hS => Or.inl ⟨w', ?_, hS⟩⟩) ?_
    rotate_left
    · obtain ⟨l2, y0, y1, y2, y3, y4⟩ := pol5 (HP4.out.below hS HP4.out.lt)
      go_simp
      all_goals with_reducible rfl
    simp only [Act.put, List.setIfInBounds_toArray, List.set_cons_zero, List.set_cons_succ]
    refine det_take (v := ?_) (i := 26) (fuel := 28) (by simp; rfl) (by kernel_rfl) (by kernel_rfl) (by kernel_rfl) (Or.inl ⟨by rfl, fun w' hS => Or.inr ⟨9, #[.agg #[.slice (some ⟨g + 1, 0, none⟩) 2 2, .slice (some ⟨g + 2, 0, none⟩) 1 1, .slice (some ⟨g + 3, 0, none⟩) 2 2, .slice (some ⟨g + 4, 0, none⟩) 1 1, .slice (some ⟨gr, 0, none⟩) 5 5], .int .i64 0], w', ?_, ?_⟩⟩) ?_
    rotate_left
    · go_simp
      all_goals with_reducible rfl
    · exact (HL0.out w' hS).mono fun e w2 h => ⟨by rw [h.1], hS.trans (h.2.mono hS.size)⟩
    simp only [Act.put, List.setIfInBounds_toArray, List.set_cons_zero, List.set_cons_succ]
    refine det_take (v := ?_) (i := 27) (fuel := 27) (by simp; rfl) (by kernel_rfl) (by kernel_rfl) (by kernel_rfl) (Or.inl ⟨by rfl, fun w' hS => Or.inr ⟨11, #[.agg #[.slice (some ⟨g + 1, 0, none⟩) 2 2, .slice (some ⟨g + 2, 0, none⟩) 1 1, .slice (some ⟨g + 3, 0, none⟩) 2 2, .slice (some ⟨g + 4, 0, none⟩) 1 1, .slice (some ⟨gr, 0, none⟩) 5 5], .int .i64 1, .agg #[.int .u64 1, .int .i64 1]], w', ?_, ?_⟩⟩) ?_
    rotate_left
    · go_simp
      all_goals with_reducible rfl
    · exact (HE2.out w' hS).mono fun e w2 h => ⟨by rw [h.1], hS.trans (h.2.mono hS.size)⟩
    simp only [Act.put, List.setIfInBounds_toArray, List.set_cons_zero, List.set_cons_succ]
    refine det_take (v := ?_) (i := 28) (fuel := 26) (by simp; rfl) (by kernel_rfl) (by kernel_rfl) (by kernel_rfl) (Or.inl ⟨by rfl, fun w' hS => Or.inl ⟨w', ?_, hS⟩⟩) ?_
    rotate_left
    · go_simp
      all_goals with_reducible rfl
    simp only [Act.put, List.setIfInBounds_toArray, List.set_cons_zero, List.set_cons_succ]
    refine det_take (v := ?_) (i := 29) (fuel := 25) (by simp; rfl) (by kernel_rfl) (by kernel_rfl) (by kernel_rfl) (Or.inl ⟨by rfl, fun w' hS => Or.inl ⟨w', ?_, hS⟩⟩) ?_
    rotate_left
    · go_simp
      all_goals with_reducible rfl
    simp only [Act.put, List.setIfInBounds_toArray, List.set_cons_zero, List.set_cons_succ]
    refine det_take (v := ?_) (i := 30) (fuel := 24) (by simp; rfl) (by kernel_rfl) (by kernel_rfl) (by kernel_rfl) (Or.inl ⟨by rfl, fun w' hS => Or.inl ⟨w', ?_, hS⟩⟩) ?_
    rotate_left
    · go_simp
      all_goals with_reducible rfl
    simp only [Act.put, List.setIfInBounds_toArray, List.set_cons_zero, List.set_cons_succ]
    refine det_take (v := ?_) (i := 31) (fuel := 23) (by simp; rfl) (by kernel_rfl) (by kernel_rfl) (by kernel_rfl) (Or.inl ⟨by rfl, fun w' hS => Or.inl ⟨w', ?_, hS⟩⟩) ?_
    rotate_left
    · obtain ⟨l2, y0, y1, y2, y3, y4⟩ := pol5 (HP4.out.below hS HP4.out.lt)
      go_simp
      all_goals with_reducible rfl
    simp only [Act.put, List.setIfInBounds_toArray, List.set_cons_zero, List.set_cons_succ]
    refine det_take (v := ?_) (i := 32) (fuel := 22) (by simp; rfl) (by kernel_rfl) (by kernel_rfl) (by kernel_rfl) (Or.inl ⟨by rfl, fun w' hS => Or.inr ⟨12, #[.agg #[.slice (some ⟨g + 1, 0, none⟩) 2 2, .slice (some ⟨g + 2, 0, none⟩) 1 1, .slice (some ⟨g + 3, 0, none⟩) 2 2, .slice (some ⟨g + 4, 0, none⟩) 1 1, .slice (some ⟨gr, 0, none⟩) 5 5], .int .i64 0, .int .i64 4], w', ?_, ?_⟩⟩) ?_
    rotate_left
    · go_simp
      all_goals with_reducible rfl
    · exact (HF0.out w' hS).mono fun e w2 h => ⟨by rw [h.1], hS.trans (h.2.mono hS.size)⟩
    simp only [Act.put, List.setIfInBounds_toArray, List.set_cons_zero, List.set_cons_succ]
    refine det_take (v := ?_) (i := 33) (fuel := 21) (by simp; rfl) (by kernel_rfl) (by kernel_rfl) (by kernel_rfl) (Or.inl ⟨by rfl, fun w' hS => Or.inl ⟨w', ?_, hS⟩⟩) ?_
    rotate_left
    · go_simp
      all_goals with_reducible rfl
    simp only [Act.put, List.setIfInBounds_toArray, List.set_cons_zero, List.set_cons_succ]
    refine det_take (v := ?_) (i := 34) (fuel := 20) (by simp; rfl) (by kernel_rfl) (by kernel_rfl) (by kernel_rfl) (Or.inl ⟨by rfl, fun w' hS => Or.inl ⟨w', ?_, hS⟩⟩) ?_
    rotate_left
    · go_simp
      all_goals with_reducible rfl
    simp only [Act.put, List.setIfInBounds_toArray, List.set_cons_zero, List.set_cons_succ]
    refine det_take (v := ?_) (i := 35) (fuel := 19) (by simp; rfl) (by kernel_rfl) (by kernel_rfl) (by kernel_rfl) (Or.inl ⟨by rfl, fun w' hS => Or.inl ⟨w', ?_, hS⟩⟩) ?_
    rotate_left
    · go_simp
      all_goals with_reducible rfl
    simp only [Act.put, List.setIfInBounds_toArray, List.set_cons_zero, List.set_cons_succ]
    refine det_take (v := ?_) (i := 36) (fuel := 18) (by simp; rfl) (by kernel_rfl) (by kernel_rfl) (by kernel_rfl) (Or.inl ⟨by rfl, fun w' hS => Or.inl ⟨w', ?_, hS⟩⟩) ?_
    rotate_left
    · obtain ⟨l2, y0, y1, y2, y3, y4⟩ := pol5 (HP4.out.below hS HP4.out.lt)
      go_simp
      all_goals with_reducible rfl
    simp only [Act.put, List.setIfInBounds_toArray, List.set_cons_zero, List.set_cons_succ]
    refine det_take (v := ?_) (i := 37) (fuel := 17) (by simp; rfl) (by kernel_rfl) (by kernel_rfl) (by kernel_rfl) (Or.inl ⟨by rfl, fun w' hS => Or.inr ⟨12, #[.agg #[.slice (some ⟨g + 1, 0, none⟩) 2 2, .slice (some ⟨g + 2, 0, none⟩) 1 1, .slice (some ⟨g + 3, 0, none⟩) 2 2, .slice (some ⟨g + 4, 0, none⟩) 1 1, .slice (some ⟨gr, 0, none⟩) 5 5], .int .i64 1, .int .i64 4], w', ?_, ?_⟩⟩) ?_
    rotate_left
    · go_simp
      all_goals with_reducible rfl
    · exact (HF1.out w' hS).mono fun e w2 h => ⟨by rw [h.1], hS.trans (h.2.mono hS.size)⟩
    simp only [Act.put, List.setIfInBounds_toArray, List.set_cons_zero, List.set_cons_succ]
    refine det_take (v := ?_) (i := 38) (fuel := 16) (by simp; rfl) (by kernel_rfl) (by kernel_rfl) (by kernel_rfl) (Or.inl ⟨by rfl, fun w' hS => Or.inl ⟨w', ?_, hS⟩⟩) ?_
    rotate_left
    · go_simp
      all_goals with_reducible rfl
    simp only [Act.put, List.setIfInBounds_toArray, List.set_cons_zero, List.set_cons_succ]
    refine det_take (v := ?_) (i := 39) (fuel := 15) (by simp; rfl) (by kernel_rfl) (by kernel_rfl) (by kernel_rfl) (Or.inl ⟨by rfl, fun w' hS => Or.inl ⟨w', ?_, hS⟩⟩) ?_
    rotate_left
    · go_simp
      all_goals with_reducible rfl
    simp only [Act.put, List.setIfInBounds_toArray, List.set_cons_zero, List.set_cons_succ]
    refine det_take (v := ?_) (i := 40) (fuel := 14) (by simp; rfl) (by kernel_rfl) (by kernel_rfl) (by kernel_rfl) (Or.inl ⟨by rfl, fun w' hS => Or.inl ⟨w', ?_, hS⟩⟩) ?_
    rotate_left
    · obtain ⟨l2, y0, y1, y2, y3, y4⟩ := pol5 (HP4.out.below hS HP4.out.lt)
      go_simp
      all_goals with_reducible rfl
    simp only [Act.put, List.setIfInBounds_toArray, List.set_cons_zero, List.set_cons_succ]
    refine det_take (v := ?_) (i := 41) (fuel := 13) (by simp; rfl) (by kernel_rfl) (by kernel_rfl) (by kernel_rfl) (Or.inl ⟨by rfl, fun w' hS => Or.inr ⟨12, #[.agg #[.slice (some ⟨g + 1, 0, none⟩) 2 2, .slice (some ⟨g + 2, 0, none⟩) 1 1, .slice (some ⟨g + 3, 0, none⟩) 2 2, .slice (some ⟨g + 4, 0, none⟩) 1 1, .slice (some ⟨gr, 0, none⟩) 5 5], .int .i64 0, .int .i64 0], w', ?_, ?_⟩⟩) ?_
    rotate_left
    · go_simp
      all_goals with_reducible rfl
    · exact (HF2.out w' hS).mono fun e w2 h => ⟨by rw [h.1], hS.trans (h.2.mono hS.size)⟩
    simp only [Act.put, List.setIfInBounds_toArray, List.set_cons_zero, List.set_cons_succ]
    refine det_take (v := ?_) (i := 42) (fuel := 12) (by simp; rfl) (by kernel_rfl) (by kernel_rfl) (by kernel_rfl) (Or.inl ⟨by rfl, fun w' hS => Or.inl ⟨w', ?_, hS⟩⟩) ?_
    rotate_left
    · go_simp
      all_goals with_reducible rfl
    simp only [Act.put, List.setIfInBounds_toArray, List.set_cons_zero, List.set_cons_succ]
    refine det_take (v := ?_) (i := 43) (fuel := 11) (by simp; rfl) (by kernel_rfl) (by kernel_rfl) (by kernel_rfl) (Or.inl ⟨by rfl, fun w' hS => Or.inl ⟨w', ?_, hS⟩⟩) ?_
    rotate_left
    · go_simp
      all_goals with_reducible rfl
    simp only [Act.put, List.setIfInBounds_toArray, List.set_cons_zero, List.set_cons_succ]
    refine det_take (v := ?_) (i := 44) (fuel := 10) (by simp; rfl) (by kernel_rfl) (by kernel_rfl) (by kernel_rfl) (Or.inl ⟨by rfl, fun w' hS => Or.inl ⟨w', ?_, hS⟩⟩) ?_
    rotate_left
    · obtain ⟨l2, y0, y1, y2, y3, y4⟩ := pol5 (HP4.out.below hS HP4.out.lt)
      go_simp
      all_goals with_reducible rfl
    simp only [Act.put, List.setIfInBounds_toArray, List.set_cons_zero, List.set_cons_succ]
    refine det_take (v := ?_) (i := 45) (fuel := 9) (by simp; rfl) (by kernel_rfl) (by kernel_rfl) (by kernel_rfl) (Or.inl ⟨by rfl, fun w' hS => Or.inr ⟨10, #[.agg #[.slice (some ⟨g + 1, 0, none⟩) 2 2, .slice (some ⟨g + 2, 0, none⟩) 1 1, .slice (some ⟨g + 3, 0, none⟩) 2 2, .slice (some ⟨g + 4, 0, none⟩) 1 1, .slice (some ⟨gr, 0, none⟩) 5 5], .int .i64 1], w', ?_, ?_⟩⟩) ?_
    rotate_left
    · go_simp
      all_goals with_reducible rfl
    · exact (HG1.out w' hS).mono fun e w2 h => ⟨by rw [h.1], hS.trans (h.2.mono hS.size)⟩
    simp only [Act.put, List.setIfInBounds_toArray, List.set_cons_zero, List.set_cons_succ]
    refine det_take (v := ?_) (i := 46) (fuel := 8) (by simp; rfl) (by kernel_rfl) (by kernel_rfl) (by kernel_rfl) (Or.inl ⟨by rfl, fun w' hS => Or.inl ⟨w', ?_, hS⟩⟩) ?_
    rotate_left
    · go_simp
      all_goals with_reducible rfl
    simp only [Act.put, List.setIfInBounds_toArray, List.set_cons_zero, List.set_cons_succ]
    refine det_take (v := ?_) (i := 47) (fuel := 7) (by simp; rfl) (by kernel_rfl) (by kernel_rfl) (by kernel_rfl) (Or.inl ⟨by rfl, fun w' hS => Or.inl ⟨w', ?_, hS⟩⟩) ?_
    rotate_left
    · go_simp
      all_goals with_reducible rfl
    simp only [Act.put, List.setIfInBounds_toArray, List.set_cons_zero, List.set_cons_succ]
    refine det_take (v := ?_) (i := 48) (fuel := 6) (by simp; rfl) (by kernel_rfl) (by kernel_rfl) (by kernel_rfl) (Or.inl ⟨by rfl, fun w' hS => Or.inl ⟨w', ?_, hS⟩⟩) ?_
    rotate_left
    · go_simp
      all_goals with_reducible rfl
    simp only [Act.put, List.setIfInBounds_toArray, List.set_cons_zero, List.set_cons_succ]
    refine det_take (v := ?_) (i := 49) (fuel := 5) (by simp; rfl) (by kernel_rfl) (by kernel_rfl) (by kernel_rfl) (Or.inl ⟨by rfl, fun w' hS => Or.inl ⟨w', ?_, hS⟩⟩) ?_
    rotate_left
    · go_simp
      all_goals with_reducible rfl
    simp only [Act.put, List.setIfInBounds_toArray, List.set_cons_zero, List.set_cons_succ]
    refine det_take (v := ?_) (i := 50) (fuel := 4) (by simp; rfl) (by kernel_rfl) (by kernel_rfl) (by kernel_rfl) (Or.inl ⟨by rfl, fun w' hS => Or.inl ⟨w', ?_, hS⟩⟩) ?_
    rotate_left
    · obtain ⟨l2, y0, y1, y2, y3, y4⟩ := pol5 (HP4.out.below hS HP4.out.lt)
      go_simp
      all_goals with_reducible rfl
    simp only [Act.put, List.setIfInBounds_toArray, List.set_cons_zero, List.set_cons_succ]
    refine det_take (v := ?_) (i := 51) (fuel := 3) (by simp; rfl) (by kernel_rfl) (by kernel_rfl) (by kernel_rfl) (Or.inl ⟨by rfl, fun w' hS => Or.inr ⟨9, #[.agg #[.slice (some ⟨g + 1, 0, none⟩) 2 2, .slice (some ⟨g + 2, 0, none⟩) 1 1, .slice (some ⟨g + 3, 0, none⟩) 2 2, .slice (some ⟨g + 4, 0, none⟩) 1 1, .slice (some ⟨gr, 0, none⟩) 5 5], .int .i64 (-1)], w', ?_, ?_⟩⟩) ?_
    rotate_left
    · go_simp
      all_goals with_reducible rfl
    · exact (HLN.out w' hS).mono fun e w2 h => ⟨by rw [h.1], hS.trans (h.2.mono hS.size)⟩
    simp only [Act.put, List.setIfInBounds_toArray, List.set_cons_zero, List.set_cons_succ]
    refine det_take (v := ?_) (i := 52) (fuel := 2) (by simp; rfl) (by kernel_rfl) (by kernel_rfl) (by kernel_rfl) (Or.inl ⟨by rfl, fun w' hS => Or.inl ⟨w', ?_, hS⟩⟩) ?_
    rotate_left
    · go_simp
      all_goals with_reducible rfl
    simp only [Act.put, List.setIfInBounds_toArray, List.set_cons_zero, List.set_cons_succ]
    refine det_take (v := ?_) (i := 53) (fuel := 1) (by simp; rfl) (by kernel_rfl) (by kernel_rfl) (by kernel_rfl) (Or.inl ⟨by rfl, fun w' hS => Or.inl ⟨w', ?_, hS⟩⟩) ?_
    rotate_left
    · go_simp
      all_goals with_reducible rfl
    simp only [Act.put, List.setIfInBounds_toArray, List.set_cons_zero, List.set_cons_succ]
    refine det_take (v := ?_) (i := 54) (fuel := 0) (by simp; rfl) (by kernel_rfl) (by kernel_rfl) (by kernel_rfl) (Or.inl ⟨by rfl, fun w' hS => Or.inl ⟨w', ?_, hS⟩⟩) ?_
    rotate_left
    · go_simp
      all_goals with_reducible rfl
    simp only [Act.put, List.setIfInBounds_toArray, List.set_cons_zero, List.set_cons_succ]
    refine det_done (by kernel_rfl) (fun V hV => ?_) _
    have HV9 := Lib.hid (HX4.out.trans (hV.mono HX4.out.size))
    go_wp2_with fail
    go_meet
    case rel => exact ⟨rfl, HV9.out⟩
  case rest =>
    as_aux_lemma =>
    obtain ⟨rfl, hk⟩ := hcut
    have HB5 := Lib.hid hk
    clear hk HPR HRI HM1 HM2 HM3 HM4 HM5 HM6 HM7 HL1 HL0 HLN HG0 HG1 HE0 HE1 HE2 HF0 HF1 HF2 HP4 HS4 HR4 HX4
    go_wp2
    go_loopw [2] (fun i wr => ∃ k : Nat, k ≤ 11 ∧ i = .int .i64 k ∧ Below w.heap.size w wr) (fun i _ => 11 - (intOf i).toNat)
    case atStart => exact ⟨0, by omega, rfl, HB5.out⟩
    case round =>
      obtain ⟨k, hk, rfl, hb⟩ := hrel
      have HBr := Lib.hid hb
      clear hb
      by_cases hlt : k < 11
      · have hlt' : (k : Int) < 11 := by omega
        go_wp2_with fail
        (with_reducible refine (HSM.out _).mono ?_)
        rintro e v1 ⟨q, hq, rfl, hS, hb⟩
        have HD1 := Lib.hid (HBr.out.trans (hb.mono HBr.out.size))
        have HQ1 := Lib.hid hS
        have hql : q + 4 < v1.heap.size := hS.2.2.2.lt
        clear hb hS
        obtain ⟨gz, hgz⟩ : ∃ x, v1.heap.size = x := ⟨_, rfl⟩
        obtain ⟨V2, hV2⟩ : ∃ V, v1.alloc (.cells #[.slice (some ⟨q + 1, 0, none⟩) 2 2, .slice (some ⟨q + 2, 0, none⟩) 1 1, .slice (some ⟨q + 3, 0, none⟩) 2 2, .slice (some ⟨q + 4, 0, none⟩) 1 1, .slice none 0 0] 28) = V := ⟨_, rfl⟩
        have HP2 := Lib.hid (show Blk V2 gz 28 #[.slice (some ⟨q + 1, 0, none⟩) 2 2, .slice (some ⟨q + 2, 0, none⟩) 1 1, .slice (some ⟨q + 3, 0, none⟩) 2 2, .slice (some ⟨q + 4, 0, none⟩) 1 1, .slice none 0 0] from by rw [← hV2, ← hgz]; exact Blk.new _ _ _)
        have HX2 := Lib.hid (show Below w.heap.size w V2 from by rw [← hV2]; exact bel_alloc HD1.out _)
        have HS2 := Lib.hid (show SmB V2 q from by rw [← hV2]; exact HQ1.out.below (bel_alloc (Below.refl _ _) _))
        have hwq : w.heap.size ≤ q := by have := HBr.out.size; omega
        have HV2 := Lib.hid hV2
        have HGZ := Lib.hid hgz
        clear hV2 hgz HD1 HQ1
        go_upto_region 11 with fail
        rw [HGZ.out, HV2.out]
        have hqz : q + 4 < gz := by have := HGZ.out; omega
        clear HV2 hql HSM HKN
        by_cases hk0 : k = 0
        · subst hk0
          as_aux_lemma =>
            obtain ⟨l2, y0, y1, y2, y3, y4⟩ := pol5 HP2.out
            have c0 : V2.cell? ⟨q + 1, 3, none⟩ = some (.int .i64 10000) := (HS2.out.1.cell 3).trans rfl
            have f0 := HS2.out.1.frozen 3
            have cl := HS2.out.1.lt
            obtain ⟨V3, hV3⟩ : ∃ V, V2.setCell ⟨q + 1, 3, none⟩ (.int .i64 9999) = V := ⟨_, rfl⟩
            have HB3 := Lib.hid (show Below w.heap.size w V3 from by rw [← hV3]; exact HX2.out.setCell (p := ⟨q + 1, 3, none⟩) (by show w.heap.size ≤ q + 1; omega) _)
            have HP3 := Lib.hid (show Blk V3 gz 28 #[.slice (some ⟨q + 1, 0, none⟩) 2 2, .slice (some ⟨q + 2, 0, none⟩) 1 1, .slice (some ⟨q + 3, 0, none⟩) 2 2, .slice (some ⟨q + 4, 0, none⟩) 1 1, .slice none 0 0] from by rw [← hV3]; exact HP2.out.far (p := ⟨q + 1, 3, none⟩) (by show gz ≠ q + 1; omega) _)
            have HC1 := Lib.hid (show Blk V3 (q + 1) 46 #[.int .i64 1, .int .i64 0, .int .i64 (-1), .int .i64 9999, .int .i64 2, .int .i64 0, .int .i64 0, .int .i64 5000] from by rw [← hV3]; have h := HS2.out.1.set_ 3 (.int .i64 9999); simpa [entC, whoC] using h)
            have HC2 := Lib.hid (show Blk V3 (q + 2) 30 #[.int .u64 3] from by rw [← hV3]; exact HS2.out.2.1.far (p := ⟨q + 1, 3, none⟩) (by show q + 2 ≠ q + 1; omega) _)
            have HC3 := Lib.hid (show Blk V3 (q + 3) 48 #[.int .u64 3, .int .i64 2, .int .u64 1, .int .u64 1, .int .i64 1, .int .u64 0] from by rw [← hV3]; exact HS2.out.2.2.1.far (p := ⟨q + 1, 3, none⟩) (by show q + 3 ≠ q + 1; omega) _)
            have HC4 := Lib.hid (show Blk V3 (q + 4) 3 #[.int .i64 (-1)] from by rw [← hV3]; exact HS2.out.2.2.2.far (p := ⟨q + 1, 3, none⟩) (by show q + 4 ≠ q + 1; omega) _)
            have HV3 := Lib.hid hV3
            clear hV3
            go_upto_region 34 with fail
            rw [HV3.out]
            clear HV3 l2 y0 y1 y2 y3 y4
            have HPR := Lib.hid (fun (V : World) (hb : Below V3.heap.size V3 V) => (show PolRd V V3.heap.size ⟨some ⟨q + 1, 0, none⟩, 2, some ⟨q + 2, 0, none⟩, 1, (some ⟨q + 3, 0, none⟩), 2, some ⟨q + 4, 0, none⟩, 1, none, 0⟩ (badP 0) from ⟨blk_rd (HC1.out.below hb HC1.out.lt) HC1.out.lt rfl, blk_rd (HC2.out.below hb HC2.out.lt) HC2.out.lt rfl, blk_rd (HC3.out.below hb HC3.out.lt) HC3.out.lt rfl, rd_il (blk_rd (HC4.out.below hb HC4.out.lt) HC4.out.lt rfl) rfl (Nat.le_refl _), nil_rd _ _ _ _⟩).more hb.size)
            have hwd := Lib.hid (wd_of (P := badP 0) (by decide +kernel))
            have HRT := Lib.hid (right_dec (badP 0) false (by decide +kernel))
            have HRI := Lib.hid (fun (V : World) (hb : Below V3.heap.size V3 V) => show Calls Try.prog 7 #[.agg #[.slice (some ⟨q + 1, 0, none⟩) 2 2, .slice (some ⟨q + 2, 0, none⟩) 1 1, .slice (some ⟨q + 3, 0, none⟩) 2 2, .slice (some ⟨q + 4, 0, none⟩) 1 1, .slice none 0 0]] V (RetB V false) from ruRight_c ⟨some ⟨q + 1, 0, none⟩, 2, some ⟨q + 2, 0, none⟩, 1, (some ⟨q + 3, 0, none⟩), 2, some ⟨q + 4, 0, none⟩, 1, none, 0⟩ (badP 0) V 2 1 2 1 0 (HPR.out V hb) hwd.out rfl rfl rfl rfl rfl false HRT.out)
            have HMA := Lib.hid (fun (V : World) (hb : Below V3.heap.size V3 V) => show Calls Try.prog 8 #[.agg #[.slice (some ⟨q + 1, 0, none⟩) 2 2, .slice (some ⟨q + 2, 0, none⟩) 1 1, .slice (some ⟨q + 3, 0, none⟩) 2 2, .slice (some ⟨q + 4, 0, none⟩) 1 1, .slice none 0 0], .int .i64 0, .int .i64 1, .int .i64 0] V (RetB V false) from ruMay_c ⟨some ⟨q + 1, 0, none⟩, 2, some ⟨q + 2, 0, none⟩, 1, (some ⟨q + 3, 0, none⟩), 2, some ⟨q + 4, 0, none⟩, 1, none, 0⟩ (badP 0) V 2 1 2 1 0 (HPR.out V hb) hwd.out rfl rfl rfl rfl rfl false HRT.out 0 1 0 false rfl)
            have HSE := Lib.hid (fun (V : World) (hb : Below V3.heap.size V3 V) => show Calls Try.prog 11 #[.agg #[.slice (some ⟨q + 1, 0, none⟩) 2 2, .slice (some ⟨q + 2, 0, none⟩) 1 1, .slice (some ⟨q + 3, 0, none⟩) 2 2, .slice (some ⟨q + 4, 0, none⟩) 1 1, .slice none 0 0], .int .i64 0, .agg #[.int .u64 0, .int .i64 0]] V (RetB V false) from ruSees_c ⟨some ⟨q + 1, 0, none⟩, 2, some ⟨q + 2, 0, none⟩, 1, (some ⟨q + 3, 0, none⟩), 2, some ⟨q + 4, 0, none⟩, 1, none, 0⟩ (badP 0) V 2 1 2 1 0 (HPR.out V hb) hwd.out rfl rfl rfl rfl rfl false HRT.out 0 0 0 (by decide) false rfl)
            have HLA := Lib.hid (fun (V : World) (hb : Below V3.heap.size V3 V) => show Calls Try.prog 9 #[.agg #[.slice (some ⟨q + 1, 0, none⟩) 2 2, .slice (some ⟨q + 2, 0, none⟩) 1 1, .slice (some ⟨q + 3, 0, none⟩) 2 2, .slice (some ⟨q + 4, 0, none⟩) 1 1, .slice none 0 0], .int .i64 0] V (RetL V 0 0) from ruLabel_c ⟨some ⟨q + 1, 0, none⟩, 2, some ⟨q + 2, 0, none⟩, 1, (some ⟨q + 3, 0, none⟩), 2, some ⟨q + 4, 0, none⟩, 1, none, 0⟩ (badP 0) V 2 1 2 1 0 (HPR.out V hb) hwd.out rfl rfl rfl rfl rfl false HRT.out 0 0 0 rfl)
            obtain ⟨l2, y0, y1, y2, y3, y4⟩ := pol5 HP3.out
            go_wp2_with fail
            (with_reducible refine (HRI.out _ (Below.refl _ _)).mono ?_)
            rintro e t1 ⟨rfl, hb⟩
            have HT1 := Lib.hid (hb)
            clear hb l2 y0 y1 y2 y3 y4
            obtain ⟨l2, y0, y1, y2, y3, y4⟩ := pol5 (HP3.out.below HT1.out HP3.out.lt)
            go_wp2_with fail
            (with_reducible refine (HMA.out _ HT1.out).mono ?_)
            rintro e t2 ⟨rfl, hb⟩
            have HT2 := Lib.hid (HT1.out.trans (hb.mono HT1.out.size))
            clear hb l2 y0 y1 y2 y3 y4
            obtain ⟨l2, y0, y1, y2, y3, y4⟩ := pol5 (HP3.out.below HT2.out HP3.out.lt)
            go_wp2_with fail
            (with_reducible refine (HSE.out _ HT2.out).mono ?_)
            rintro e t3 ⟨rfl, hb⟩
            have HT3 := Lib.hid (HT2.out.trans (hb.mono HT2.out.size))
            clear hb l2 y0 y1 y2 y3 y4
            obtain ⟨l2, y0, y1, y2, y3, y4⟩ := pol5 (HP3.out.below HT3.out HP3.out.lt)
            go_wp2_with fail
            (with_reducible refine (HLA.out _ HT3.out).mono ?_)
            rintro e t4 ⟨rfl, hb⟩
            have HT4 := Lib.hid (HT3.out.trans (hb.mono HT3.out.size))
            clear hb l2 y0 y1 y2 y3 y4
            have HF9 := Lib.hid (HB3.out.trans (HT4.out.mono HB3.out.size))
            go_wp2
            go_roundw
            case rel => exact ⟨1, by omega, by first | rfl | go_num, HF9.out⟩
            case measure => simp [intOf]
        · skip
          by_cases hk1 : k = 1
          · subst hk1
            as_aux_lemma =>
              obtain ⟨l2, y0, y1, y2, y3, y4⟩ := pol5 HP2.out
              have c0 : V2.cell? ⟨q + 1, 6, none⟩ = some (.int .i64 0) := (HS2.out.1.cell 6).trans rfl
              have f0 := HS2.out.1.frozen 6
              have cl := HS2.out.1.lt
              obtain ⟨V3, hV3⟩ : ∃ V, V2.setCell ⟨q + 1, 6, none⟩ (.int .i64 1) = V := ⟨_, rfl⟩
              have HB3 := Lib.hid (show Below w.heap.size w V3 from by rw [← hV3]; exact HX2.out.setCell (p := ⟨q + 1, 6, none⟩) (by show w.heap.size ≤ q + 1; omega) _)
              have HP3 := Lib.hid (show Blk V3 gz 28 #[.slice (some ⟨q + 1, 0, none⟩) 2 2, .slice (some ⟨q + 2, 0, none⟩) 1 1, .slice (some ⟨q + 3, 0, none⟩) 2 2, .slice (some ⟨q + 4, 0, none⟩) 1 1, .slice none 0 0] from by rw [← hV3]; exact HP2.out.far (p := ⟨q + 1, 6, none⟩) (by show gz ≠ q + 1; omega) _)
              have HC1 := Lib.hid (show Blk V3 (q + 1) 46 #[.int .i64 1, .int .i64 0, .int .i64 (-1), .int .i64 10000, .int .i64 2, .int .i64 0, .int .i64 1, .int .i64 5000] from by rw [← hV3]; have h := HS2.out.1.set_ 6 (.int .i64 1); simpa [entC, whoC] using h)
              have HC2 := Lib.hid (show Blk V3 (q + 2) 30 #[.int .u64 3] from by rw [← hV3]; exact HS2.out.2.1.far (p := ⟨q + 1, 6, none⟩) (by show q + 2 ≠ q + 1; omega) _)
              have HC3 := Lib.hid (show Blk V3 (q + 3) 48 #[.int .u64 3, .int .i64 2, .int .u64 1, .int .u64 1, .int .i64 1, .int .u64 0] from by rw [← hV3]; exact HS2.out.2.2.1.far (p := ⟨q + 1, 6, none⟩) (by show q + 3 ≠ q + 1; omega) _)
              have HC4 := Lib.hid (show Blk V3 (q + 4) 3 #[.int .i64 (-1)] from by rw [← hV3]; exact HS2.out.2.2.2.far (p := ⟨q + 1, 6, none⟩) (by show q + 4 ≠ q + 1; omega) _)
              have HV3 := Lib.hid hV3
              clear hV3
              go_upto_region 34 with fail
              rw [HV3.out]
              clear HV3 l2 y0 y1 y2 y3 y4
              have HPR := Lib.hid (fun (V : World) (hb : Below V3.heap.size V3 V) => (show PolRd V V3.heap.size ⟨some ⟨q + 1, 0, none⟩, 2, some ⟨q + 2, 0, none⟩, 1, (some ⟨q + 3, 0, none⟩), 2, some ⟨q + 4, 0, none⟩, 1, none, 0⟩ (badP 1) from ⟨blk_rd (HC1.out.below hb HC1.out.lt) HC1.out.lt rfl, blk_rd (HC2.out.below hb HC2.out.lt) HC2.out.lt rfl, blk_rd (HC3.out.below hb HC3.out.lt) HC3.out.lt rfl, rd_il (blk_rd (HC4.out.below hb HC4.out.lt) HC4.out.lt rfl) rfl (Nat.le_refl _), nil_rd _ _ _ _⟩).more hb.size)
              have hwd := Lib.hid (wd_of (P := badP 1) (by decide +kernel))
              have HRT := Lib.hid (right_dec (badP 1) false (by decide +kernel))
              have HRI := Lib.hid (fun (V : World) (hb : Below V3.heap.size V3 V) => show Calls Try.prog 7 #[.agg #[.slice (some ⟨q + 1, 0, none⟩) 2 2, .slice (some ⟨q + 2, 0, none⟩) 1 1, .slice (some ⟨q + 3, 0, none⟩) 2 2, .slice (some ⟨q + 4, 0, none⟩) 1 1, .slice none 0 0]] V (RetB V false) from ruRight_c ⟨some ⟨q + 1, 0, none⟩, 2, some ⟨q + 2, 0, none⟩, 1, (some ⟨q + 3, 0, none⟩), 2, some ⟨q + 4, 0, none⟩, 1, none, 0⟩ (badP 1) V 2 1 2 1 0 (HPR.out V hb) hwd.out rfl rfl rfl rfl rfl false HRT.out)
              have HMA := Lib.hid (fun (V : World) (hb : Below V3.heap.size V3 V) => show Calls Try.prog 8 #[.agg #[.slice (some ⟨q + 1, 0, none⟩) 2 2, .slice (some ⟨q + 2, 0, none⟩) 1 1, .slice (some ⟨q + 3, 0, none⟩) 2 2, .slice (some ⟨q + 4, 0, none⟩) 1 1, .slice none 0 0], .int .i64 0, .int .i64 1, .int .i64 0] V (RetB V false) from ruMay_c ⟨some ⟨q + 1, 0, none⟩, 2, some ⟨q + 2, 0, none⟩, 1, (some ⟨q + 3, 0, none⟩), 2, some ⟨q + 4, 0, none⟩, 1, none, 0⟩ (badP 1) V 2 1 2 1 0 (HPR.out V hb) hwd.out rfl rfl rfl rfl rfl false HRT.out 0 1 0 false rfl)
              have HSE := Lib.hid (fun (V : World) (hb : Below V3.heap.size V3 V) => show Calls Try.prog 11 #[.agg #[.slice (some ⟨q + 1, 0, none⟩) 2 2, .slice (some ⟨q + 2, 0, none⟩) 1 1, .slice (some ⟨q + 3, 0, none⟩) 2 2, .slice (some ⟨q + 4, 0, none⟩) 1 1, .slice none 0 0], .int .i64 0, .agg #[.int .u64 0, .int .i64 0]] V (RetB V false) from ruSees_c ⟨some ⟨q + 1, 0, none⟩, 2, some ⟨q + 2, 0, none⟩, 1, (some ⟨q + 3, 0, none⟩), 2, some ⟨q + 4, 0, none⟩, 1, none, 0⟩ (badP 1) V 2 1 2 1 0 (HPR.out V hb) hwd.out rfl rfl rfl rfl rfl false HRT.out 0 0 0 (by decide) false rfl)
              have HLA := Lib.hid (fun (V : World) (hb : Below V3.heap.size V3 V) => show Calls Try.prog 9 #[.agg #[.slice (some ⟨q + 1, 0, none⟩) 2 2, .slice (some ⟨q + 2, 0, none⟩) 1 1, .slice (some ⟨q + 3, 0, none⟩) 2 2, .slice (some ⟨q + 4, 0, none⟩) 1 1, .slice none 0 0], .int .i64 0] V (RetL V 0 0) from ruLabel_c ⟨some ⟨q + 1, 0, none⟩, 2, some ⟨q + 2, 0, none⟩, 1, (some ⟨q + 3, 0, none⟩), 2, some ⟨q + 4, 0, none⟩, 1, none, 0⟩ (badP 1) V 2 1 2 1 0 (HPR.out V hb) hwd.out rfl rfl rfl rfl rfl false HRT.out 0 0 0 rfl)
              obtain ⟨l2, y0, y1, y2, y3, y4⟩ := pol5 HP3.out
              go_wp2_with fail
              (with_reducible refine (HRI.out _ (Below.refl _ _)).mono ?_)
              rintro e t1 ⟨rfl, hb⟩
              have HT1 := Lib.hid (hb)
              clear hb l2 y0 y1 y2 y3 y4
              obtain ⟨l2, y0, y1, y2, y3, y4⟩ := pol5 (HP3.out.below HT1.out HP3.out.lt)
              go_wp2_with fail
              (with_reducible refine (HMA.out _ HT1.out).mono ?_)
              rintro e t2 ⟨rfl, hb⟩
              have HT2 := Lib.hid (HT1.out.trans (hb.mono HT1.out.size))
              clear hb l2 y0 y1 y2 y3 y4
              obtain ⟨l2, y0, y1, y2, y3, y4⟩ := pol5 (HP3.out.below HT2.out HP3.out.lt)
              go_wp2_with fail
              (with_reducible refine (HSE.out _ HT2.out).mono ?_)
              rintro e t3 ⟨rfl, hb⟩
              have HT3 := Lib.hid (HT2.out.trans (hb.mono HT2.out.size))
              clear hb l2 y0 y1 y2 y3 y4
              obtain ⟨l2, y0, y1, y2, y3, y4⟩ := pol5 (HP3.out.below HT3.out HP3.out.lt)
              go_wp2_with fail
              (with_reducible refine (HLA.out _ HT3.out).mono ?_)
              rintro e t4 ⟨rfl, hb⟩
              have HT4 := Lib.hid (HT3.out.trans (hb.mono HT3.out.size))
              clear hb l2 y0 y1 y2 y3 y4
              have HF9 := Lib.hid (HB3.out.trans (HT4.out.mono HB3.out.size))
              go_wp2
              go_roundw
              case rel => exact ⟨2, by omega, by first | rfl | go_num, HF9.out⟩
              case measure => simp [intOf]
          · skip
            by_cases hk2 : k = 2
            · subst hk2
              as_aux_lemma =>
                obtain ⟨l2, y0, y1, y2, y3, y4⟩ := pol5 HP2.out
                have c0 : V2.cell? ⟨q + 1, 5, none⟩ = some (.int .i64 0) := (HS2.out.1.cell 5).trans rfl
                have f0 := HS2.out.1.frozen 5
                have cl := HS2.out.1.lt
                obtain ⟨V3, hV3⟩ : ∃ V, V2.setCell ⟨q + 1, 5, none⟩ (.int .i64 5) = V := ⟨_, rfl⟩
                have HB3 := Lib.hid (show Below w.heap.size w V3 from by rw [← hV3]; exact HX2.out.setCell (p := ⟨q + 1, 5, none⟩) (by show w.heap.size ≤ q + 1; omega) _)
                have HP3 := Lib.hid (show Blk V3 gz 28 #[.slice (some ⟨q + 1, 0, none⟩) 2 2, .slice (some ⟨q + 2, 0, none⟩) 1 1, .slice (some ⟨q + 3, 0, none⟩) 2 2, .slice (some ⟨q + 4, 0, none⟩) 1 1, .slice none 0 0] from by rw [← hV3]; exact HP2.out.far (p := ⟨q + 1, 5, none⟩) (by show gz ≠ q + 1; omega) _)
                have HC1 := Lib.hid (show Blk V3 (q + 1) 46 #[.int .i64 1, .int .i64 0, .int .i64 (-1), .int .i64 10000, .int .i64 2, .int .i64 5, .int .i64 0, .int .i64 5000] from by rw [← hV3]; have h := HS2.out.1.set_ 5 (.int .i64 5); simpa [entC, whoC] using h)
                have HC2 := Lib.hid (show Blk V3 (q + 2) 30 #[.int .u64 3] from by rw [← hV3]; exact HS2.out.2.1.far (p := ⟨q + 1, 5, none⟩) (by show q + 2 ≠ q + 1; omega) _)
                have HC3 := Lib.hid (show Blk V3 (q + 3) 48 #[.int .u64 3, .int .i64 2, .int .u64 1, .int .u64 1, .int .i64 1, .int .u64 0] from by rw [← hV3]; exact HS2.out.2.2.1.far (p := ⟨q + 1, 5, none⟩) (by show q + 3 ≠ q + 1; omega) _)
                have HC4 := Lib.hid (show Blk V3 (q + 4) 3 #[.int .i64 (-1)] from by rw [← hV3]; exact HS2.out.2.2.2.far (p := ⟨q + 1, 5, none⟩) (by show q + 4 ≠ q + 1; omega) _)
                have HV3 := Lib.hid hV3
                clear hV3
                go_upto_region 34 with fail
                rw [HV3.out]
                clear HV3 l2 y0 y1 y2 y3 y4
                have HPR := Lib.hid (fun (V : World) (hb : Below V3.heap.size V3 V) => (show PolRd V V3.heap.size ⟨some ⟨q + 1, 0, none⟩, 2, some ⟨q + 2, 0, none⟩, 1, (some ⟨q + 3, 0, none⟩), 2, some ⟨q + 4, 0, none⟩, 1, none, 0⟩ (badP 2) from ⟨blk_rd (HC1.out.below hb HC1.out.lt) HC1.out.lt rfl, blk_rd (HC2.out.below hb HC2.out.lt) HC2.out.lt rfl, blk_rd (HC3.out.below hb HC3.out.lt) HC3.out.lt rfl, rd_il (blk_rd (HC4.out.below hb HC4.out.lt) HC4.out.lt rfl) rfl (Nat.le_refl _), nil_rd _ _ _ _⟩).more hb.size)
                have hwd := Lib.hid (wd_of (P := badP 2) (by decide +kernel))
                have HRT := Lib.hid (right_dec (badP 2) false (by decide +kernel))
                have HRI := Lib.hid (fun (V : World) (hb : Below V3.heap.size V3 V) => show Calls Try.prog 7 #[.agg #[.slice (some ⟨q + 1, 0, none⟩) 2 2, .slice (some ⟨q + 2, 0, none⟩) 1 1, .slice (some ⟨q + 3, 0, none⟩) 2 2, .slice (some ⟨q + 4, 0, none⟩) 1 1, .slice none 0 0]] V (RetB V false) from ruRight_c ⟨some ⟨q + 1, 0, none⟩, 2, some ⟨q + 2, 0, none⟩, 1, (some ⟨q + 3, 0, none⟩), 2, some ⟨q + 4, 0, none⟩, 1, none, 0⟩ (badP 2) V 2 1 2 1 0 (HPR.out V hb) hwd.out rfl rfl rfl rfl rfl false HRT.out)
                have HMA := Lib.hid (fun (V : World) (hb : Below V3.heap.size V3 V) => show Calls Try.prog 8 #[.agg #[.slice (some ⟨q + 1, 0, none⟩) 2 2, .slice (some ⟨q + 2, 0, none⟩) 1 1, .slice (some ⟨q + 3, 0, none⟩) 2 2, .slice (some ⟨q + 4, 0, none⟩) 1 1, .slice none 0 0], .int .i64 0, .int .i64 1, .int .i64 0] V (RetB V false) from ruMay_c ⟨some ⟨q + 1, 0, none⟩, 2, some ⟨q + 2, 0, none⟩, 1, (some ⟨q + 3, 0, none⟩), 2, some ⟨q + 4, 0, none⟩, 1, none, 0⟩ (badP 2) V 2 1 2 1 0 (HPR.out V hb) hwd.out rfl rfl rfl rfl rfl false HRT.out 0 1 0 false rfl)
                have HSE := Lib.hid (fun (V : World) (hb : Below V3.heap.size V3 V) => show Calls Try.prog 11 #[.agg #[.slice (some ⟨q + 1, 0, none⟩) 2 2, .slice (some ⟨q + 2, 0, none⟩) 1 1, .slice (some ⟨q + 3, 0, none⟩) 2 2, .slice (some ⟨q + 4, 0, none⟩) 1 1, .slice none 0 0], .int .i64 0, .agg #[.int .u64 0, .int .i64 0]] V (RetB V false) from ruSees_c ⟨some ⟨q + 1, 0, none⟩, 2, some ⟨q + 2, 0, none⟩, 1, (some ⟨q + 3, 0, none⟩), 2, some ⟨q + 4, 0, none⟩, 1, none, 0⟩ (badP 2) V 2 1 2 1 0 (HPR.out V hb) hwd.out rfl rfl rfl rfl rfl false HRT.out 0 0 0 (by decide) false rfl)
                have HLA := Lib.hid (fun (V : World) (hb : Below V3.heap.size V3 V) => show Calls Try.prog 9 #[.agg #[.slice (some ⟨q + 1, 0, none⟩) 2 2, .slice (some ⟨q + 2, 0, none⟩) 1 1, .slice (some ⟨q + 3, 0, none⟩) 2 2, .slice (some ⟨q + 4, 0, none⟩) 1 1, .slice none 0 0], .int .i64 0] V (RetL V 0 0) from ruLabel_c ⟨some ⟨q + 1, 0, none⟩, 2, some ⟨q + 2, 0, none⟩, 1, (some ⟨q + 3, 0, none⟩), 2, some ⟨q + 4, 0, none⟩, 1, none, 0⟩ (badP 2) V 2 1 2 1 0 (HPR.out V hb) hwd.out rfl rfl rfl rfl rfl false HRT.out 0 0 0 rfl)
                obtain ⟨l2, y0, y1, y2, y3, y4⟩ := pol5 HP3.out
                go_wp2_with fail
                (with_reducible refine (HRI.out _ (Below.refl _ _)).mono ?_)
                rintro e t1 ⟨rfl, hb⟩
                have HT1 := Lib.hid (hb)
                clear hb l2 y0 y1 y2 y3 y4
                obtain ⟨l2, y0, y1, y2, y3, y4⟩ := pol5 (HP3.out.below HT1.out HP3.out.lt)
                go_wp2_with fail
                (with_reducible refine (HMA.out _ HT1.out).mono ?_)
                rintro e t2 ⟨rfl, hb⟩
                have HT2 := Lib.hid (HT1.out.trans (hb.mono HT1.out.size))
                clear hb l2 y0 y1 y2 y3 y4
                obtain ⟨l2, y0, y1, y2, y3, y4⟩ := pol5 (HP3.out.below HT2.out HP3.out.lt)
                go_wp2_with fail
                (with_reducible refine (HSE.out _ HT2.out).mono ?_)
                rintro e t3 ⟨rfl, hb⟩
                have HT3 := Lib.hid (HT2.out.trans (hb.mono HT2.out.size))
                clear hb l2 y0 y1 y2 y3 y4
                obtain ⟨l2, y0, y1, y2, y3, y4⟩ := pol5 (HP3.out.below HT3.out HP3.out.lt)
                go_wp2_with fail
                (with_reducible refine (HLA.out _ HT3.out).mono ?_)
                rintro e t4 ⟨rfl, hb⟩
                have HT4 := Lib.hid (HT3.out.trans (hb.mono HT3.out.size))
                clear hb l2 y0 y1 y2 y3 y4
                have HF9 := Lib.hid (HB3.out.trans (HT4.out.mono HB3.out.size))
                go_wp2
                go_roundw
                case rel => exact ⟨3, by omega, by first | rfl | go_num, HF9.out⟩
                case measure => simp [intOf]
            · skip
              by_cases hk3 : k = 3
              · subst hk3
                as_aux_lemma =>
                  obtain ⟨l2, y0, y1, y2, y3, y4⟩ := pol5 HP2.out
                  have c0 : V2.cell? ⟨q + 2, 0, none⟩ = some (.int .u64 3) := (HS2.out.2.1.cell 0).trans rfl
                  have f0 := HS2.out.2.1.frozen 0
                  have cl := HS2.out.2.1.lt
                  obtain ⟨V3, hV3⟩ : ∃ V, V2.setCell ⟨q + 2, 0, none⟩ (.int .u64 4) = V := ⟨_, rfl⟩
                  have HB3 := Lib.hid (show Below w.heap.size w V3 from by rw [← hV3]; exact HX2.out.setCell (p := ⟨q + 2, 0, none⟩) (by show w.heap.size ≤ q + 2; omega) _)
                  have HP3 := Lib.hid (show Blk V3 gz 28 #[.slice (some ⟨q + 1, 0, none⟩) 2 2, .slice (some ⟨q + 2, 0, none⟩) 1 1, .slice (some ⟨q + 3, 0, none⟩) 2 2, .slice (some ⟨q + 4, 0, none⟩) 1 1, .slice none 0 0] from by rw [← hV3]; exact HP2.out.far (p := ⟨q + 2, 0, none⟩) (by show gz ≠ q + 2; omega) _)
                  have HC1 := Lib.hid (show Blk V3 (q + 1) 46 #[.int .i64 1, .int .i64 0, .int .i64 (-1), .int .i64 10000, .int .i64 2, .int .i64 0, .int .i64 0, .int .i64 5000] from by rw [← hV3]; exact HS2.out.1.far (p := ⟨q + 2, 0, none⟩) (by show q + 1 ≠ q + 2; omega) _)
                  have HC2 := Lib.hid (show Blk V3 (q + 2) 30 #[.int .u64 4] from by rw [← hV3]; have h := HS2.out.2.1.set_ 0 (.int .u64 4); simpa [entC, whoC] using h)
                  have HC3 := Lib.hid (show Blk V3 (q + 3) 48 #[.int .u64 3, .int .i64 2, .int .u64 1, .int .u64 1, .int .i64 1, .int .u64 0] from by rw [← hV3]; exact HS2.out.2.2.1.far (p := ⟨q + 2, 0, none⟩) (by show q + 3 ≠ q + 2; omega) _)
                  have HC4 := Lib.hid (show Blk V3 (q + 4) 3 #[.int .i64 (-1)] from by rw [← hV3]; exact HS2.out.2.2.2.far (p := ⟨q + 2, 0, none⟩) (by show q + 4 ≠ q + 2; omega) _)
                  have HV3 := Lib.hid hV3
                  clear hV3
                  go_upto_region 34 with fail
                  rw [HV3.out]
                  clear HV3 l2 y0 y1 y2 y3 y4
                  have HPR := Lib.hid (fun (V : World) (hb : Below V3.heap.size V3 V) => (show PolRd V V3.heap.size ⟨some ⟨q + 1, 0, none⟩, 2, some ⟨q + 2, 0, none⟩, 1, (some ⟨q + 3, 0, none⟩), 2, some ⟨q + 4, 0, none⟩, 1, none, 0⟩ (badP 3) from ⟨blk_rd (HC1.out.below hb HC1.out.lt) HC1.out.lt rfl, blk_rd (HC2.out.below hb HC2.out.lt) HC2.out.lt rfl, blk_rd (HC3.out.below hb HC3.out.lt) HC3.out.lt rfl, rd_il (blk_rd (HC4.out.below hb HC4.out.lt) HC4.out.lt rfl) rfl (Nat.le_refl _), nil_rd _ _ _ _⟩).more hb.size)
                  have hwd := Lib.hid (wd_of (P := badP 3) (by decide +kernel))
                  have HRT := Lib.hid (right_dec (badP 3) false (by decide +kernel))
                  have HRI := Lib.hid (fun (V : World) (hb : Below V3.heap.size V3 V) => show Calls Try.prog 7 #[.agg #[.slice (some ⟨q + 1, 0, none⟩) 2 2, .slice (some ⟨q + 2, 0, none⟩) 1 1, .slice (some ⟨q + 3, 0, none⟩) 2 2, .slice (some ⟨q + 4, 0, none⟩) 1 1, .slice none 0 0]] V (RetB V false) from ruRight_c ⟨some ⟨q + 1, 0, none⟩, 2, some ⟨q + 2, 0, none⟩, 1, (some ⟨q + 3, 0, none⟩), 2, some ⟨q + 4, 0, none⟩, 1, none, 0⟩ (badP 3) V 2 1 2 1 0 (HPR.out V hb) hwd.out rfl rfl rfl rfl rfl false HRT.out)
                  have HMA := Lib.hid (fun (V : World) (hb : Below V3.heap.size V3 V) => show Calls Try.prog 8 #[.agg #[.slice (some ⟨q + 1, 0, none⟩) 2 2, .slice (some ⟨q + 2, 0, none⟩) 1 1, .slice (some ⟨q + 3, 0, none⟩) 2 2, .slice (some ⟨q + 4, 0, none⟩) 1 1, .slice none 0 0], .int .i64 0, .int .i64 1, .int .i64 0] V (RetB V false) from ruMay_c ⟨some ⟨q + 1, 0, none⟩, 2, some ⟨q + 2, 0, none⟩, 1, (some ⟨q + 3, 0, none⟩), 2, some ⟨q + 4, 0, none⟩, 1, none, 0⟩ (badP 3) V 2 1 2 1 0 (HPR.out V hb) hwd.out rfl rfl rfl rfl rfl false HRT.out 0 1 0 false rfl)
                  have HSE := Lib.hid (fun (V : World) (hb : Below V3.heap.size V3 V) => show Calls Try.prog 11 #[.agg #[.slice (some ⟨q + 1, 0, none⟩) 2 2, .slice (some ⟨q + 2, 0, none⟩) 1 1, .slice (some ⟨q + 3, 0, none⟩) 2 2, .slice (some ⟨q + 4, 0, none⟩) 1 1, .slice none 0 0], .int .i64 0, .agg #[.int .u64 0, .int .i64 0]] V (RetB V false) from ruSees_c ⟨some ⟨q + 1, 0, none⟩, 2, some ⟨q + 2, 0, none⟩, 1, (some ⟨q + 3, 0, none⟩), 2, some ⟨q + 4, 0, none⟩, 1, none, 0⟩ (badP 3) V 2 1 2 1 0 (HPR.out V hb) hwd.out rfl rfl rfl rfl rfl false HRT.out 0 0 0 (by decide) false rfl)
                  have HLA := Lib.hid (fun (V : World) (hb : Below V3.heap.size V3 V) => show Calls Try.prog 9 #[.agg #[.slice (some ⟨q + 1, 0, none⟩) 2 2, .slice (some ⟨q + 2, 0, none⟩) 1 1, .slice (some ⟨q + 3, 0, none⟩) 2 2, .slice (some ⟨q + 4, 0, none⟩) 1 1, .slice none 0 0], .int .i64 0] V (RetL V 0 0) from ruLabel_c ⟨some ⟨q + 1, 0, none⟩, 2, some ⟨q + 2, 0, none⟩, 1, (some ⟨q + 3, 0, none⟩), 2, some ⟨q + 4, 0, none⟩, 1, none, 0⟩ (badP 3) V 2 1 2 1 0 (HPR.out V hb) hwd.out rfl rfl rfl rfl rfl false HRT.out 0 0 0 rfl)
                  obtain ⟨l2, y0, y1, y2, y3, y4⟩ := pol5 HP3.out
                  go_wp2_with fail
                  (with_reducible refine (HRI.out _ (Below.refl _ _)).mono ?_)
                  rintro e t1 ⟨rfl, hb⟩
                  have HT1 := Lib.hid (hb)
                  clear hb l2 y0 y1 y2 y3 y4
                  obtain ⟨l2, y0, y1, y2, y3, y4⟩ := pol5 (HP3.out.below HT1.out HP3.out.lt)
                  go_wp2_with fail
                  (with_reducible refine (HMA.out _ HT1.out).mono ?_)
                  rintro e t2 ⟨rfl, hb⟩
                  have HT2 := Lib.hid (HT1.out.trans (hb.mono HT1.out.size))
                  clear hb l2 y0 y1 y2 y3 y4
                  obtain ⟨l2, y0, y1, y2, y3, y4⟩ := pol5 (HP3.out.below HT2.out HP3.out.lt)
                  go_wp2_with fail
                  (with_reducible refine (HSE.out _ HT2.out).mono ?_)
                  rintro e t3 ⟨rfl, hb⟩
                  have HT3 := Lib.hid (HT2.out.trans (hb.mono HT2.out.size))
                  clear hb l2 y0 y1 y2 y3 y4
                  obtain ⟨l2, y0, y1, y2, y3, y4⟩ := pol5 (HP3.out.below HT3.out HP3.out.lt)
                  go_wp2_with fail
                  (with_reducible refine (HLA.out _ HT3.out).mono ?_)
                  rintro e t4 ⟨rfl, hb⟩
                  have HT4 := Lib.hid (HT3.out.trans (hb.mono HT3.out.size))
                  clear hb l2 y0 y1 y2 y3 y4
                  have HF9 := Lib.hid (HB3.out.trans (HT4.out.mono HB3.out.size))
                  go_wp2
                  go_roundw
                  case rel => exact ⟨4, by omega, by first | rfl | go_num, HF9.out⟩
                  case measure => simp [intOf]
              · skip
                by_cases hk4 : k = 4
                · subst hk4
                  as_aux_lemma =>
                    obtain ⟨l2, y0, y1, y2, y3, y4⟩ := pol5 HP2.out
                    have c0 : V2.cell? ⟨q + 2, 0, none⟩ = some (.int .u64 3) := (HS2.out.2.1.cell 0).trans rfl
                    have f0 := HS2.out.2.1.frozen 0
                    have cl := HS2.out.2.1.lt
                    obtain ⟨V3, hV3⟩ : ∃ V, V2.setCell ⟨q + 2, 0, none⟩ (.int .u64 0) = V := ⟨_, rfl⟩
                    have HB3 := Lib.hid (show Below w.heap.size w V3 from by rw [← hV3]; exact HX2.out.setCell (p := ⟨q + 2, 0, none⟩) (by show w.heap.size ≤ q + 2; omega) _)
                    have HP3 := Lib.hid (show Blk V3 gz 28 #[.slice (some ⟨q + 1, 0, none⟩) 2 2, .slice (some ⟨q + 2, 0, none⟩) 1 1, .slice (some ⟨q + 3, 0, none⟩) 2 2, .slice (some ⟨q + 4, 0, none⟩) 1 1, .slice none 0 0] from by rw [← hV3]; exact HP2.out.far (p := ⟨q + 2, 0, none⟩) (by show gz ≠ q + 2; omega) _)
                    have HC1 := Lib.hid (show Blk V3 (q + 1) 46 #[.int .i64 1, .int .i64 0, .int .i64 (-1), .int .i64 10000, .int .i64 2, .int .i64 0, .int .i64 0, .int .i64 5000] from by rw [← hV3]; exact HS2.out.1.far (p := ⟨q + 2, 0, none⟩) (by show q + 1 ≠ q + 2; omega) _)
                    have HC2 := Lib.hid (show Blk V3 (q + 2) 30 #[.int .u64 0] from by rw [← hV3]; have h := HS2.out.2.1.set_ 0 (.int .u64 0); simpa [entC, whoC] using h)
                    have HC3 := Lib.hid (show Blk V3 (q + 3) 48 #[.int .u64 3, .int .i64 2, .int .u64 1, .int .u64 1, .int .i64 1, .int .u64 0] from by rw [← hV3]; exact HS2.out.2.2.1.far (p := ⟨q + 2, 0, none⟩) (by show q + 3 ≠ q + 2; omega) _)
                    have HC4 := Lib.hid (show Blk V3 (q + 4) 3 #[.int .i64 (-1)] from by rw [← hV3]; exact HS2.out.2.2.2.far (p := ⟨q + 2, 0, none⟩) (by show q + 4 ≠ q + 2; omega) _)
                    have HV3 := Lib.hid hV3
                    clear hV3
                    go_upto_region 34 with fail
                    rw [HV3.out]
                    clear HV3 l2 y0 y1 y2 y3 y4
                    have HPR := Lib.hid (fun (V : World) (hb : Below V3.heap.size V3 V) => (show PolRd V V3.heap.size ⟨some ⟨q + 1, 0, none⟩, 2, some ⟨q + 2, 0, none⟩, 1, (some ⟨q + 3, 0, none⟩), 2, some ⟨q + 4, 0, none⟩, 1, none, 0⟩ (badP 4) from ⟨blk_rd (HC1.out.below hb HC1.out.lt) HC1.out.lt rfl, blk_rd (HC2.out.below hb HC2.out.lt) HC2.out.lt rfl, blk_rd (HC3.out.below hb HC3.out.lt) HC3.out.lt rfl, rd_il (blk_rd (HC4.out.below hb HC4.out.lt) HC4.out.lt rfl) rfl (Nat.le_refl _), nil_rd _ _ _ _⟩).more hb.size)
                    have hwd := Lib.hid (wd_of (P := badP 4) (by decide +kernel))
                    have HRT := Lib.hid (right_dec (badP 4) false (by decide +kernel))
                    have HRI := Lib.hid (fun (V : World) (hb : Below V3.heap.size V3 V) => show Calls Try.prog 7 #[.agg #[.slice (some ⟨q + 1, 0, none⟩) 2 2, .slice (some ⟨q + 2, 0, none⟩) 1 1, .slice (some ⟨q + 3, 0, none⟩) 2 2, .slice (some ⟨q + 4, 0, none⟩) 1 1, .slice none 0 0]] V (RetB V false) from ruRight_c ⟨some ⟨q + 1, 0, none⟩, 2, some ⟨q + 2, 0, none⟩, 1, (some ⟨q + 3, 0, none⟩), 2, some ⟨q + 4, 0, none⟩, 1, none, 0⟩ (badP 4) V 2 1 2 1 0 (HPR.out V hb) hwd.out rfl rfl rfl rfl rfl false HRT.out)
                    have HMA := Lib.hid (fun (V : World) (hb : Below V3.heap.size V3 V) => show Calls Try.prog 8 #[.agg #[.slice (some ⟨q + 1, 0, none⟩) 2 2, .slice (some ⟨q + 2, 0, none⟩) 1 1, .slice (some ⟨q + 3, 0, none⟩) 2 2, .slice (some ⟨q + 4, 0, none⟩) 1 1, .slice none 0 0], .int .i64 0, .int .i64 1, .int .i64 0] V (RetB V false) from ruMay_c ⟨some ⟨q + 1, 0, none⟩, 2, some ⟨q + 2, 0, none⟩, 1, (some ⟨q + 3, 0, none⟩), 2, some ⟨q + 4, 0, none⟩, 1, none, 0⟩ (badP 4) V 2 1 2 1 0 (HPR.out V hb) hwd.out rfl rfl rfl rfl rfl false HRT.out 0 1 0 false rfl)
                    have HSE := Lib.hid (fun (V : World) (hb : Below V3.heap.size V3 V) => show Calls Try.prog 11 #[.agg #[.slice (some ⟨q + 1, 0, none⟩) 2 2, .slice (some ⟨q + 2, 0, none⟩) 1 1, .slice (some ⟨q + 3, 0, none⟩) 2 2, .slice (some ⟨q + 4, 0, none⟩) 1 1, .slice none 0 0], .int .i64 0, .agg #[.int .u64 0, .int .i64 0]] V (RetB V false) from ruSees_c ⟨some ⟨q + 1, 0, none⟩, 2, some ⟨q + 2, 0, none⟩, 1, (some ⟨q + 3, 0, none⟩), 2, some ⟨q + 4, 0, none⟩, 1, none, 0⟩ (badP 4) V 2 1 2 1 0 (HPR.out V hb) hwd.out rfl rfl rfl rfl rfl false HRT.out 0 0 0 (by decide) false rfl)
                    have HLA := Lib.hid (fun (V : World) (hb : Below V3.heap.size V3 V) => show Calls Try.prog 9 #[.agg #[.slice (some ⟨q + 1, 0, none⟩) 2 2, .slice (some ⟨q + 2, 0, none⟩) 1 1, .slice (some ⟨q + 3, 0, none⟩) 2 2, .slice (some ⟨q + 4, 0, none⟩) 1 1, .slice none 0 0], .int .i64 0] V (RetL V 0 0) from ruLabel_c ⟨some ⟨q + 1, 0, none⟩, 2, some ⟨q + 2, 0, none⟩, 1, (some ⟨q + 3, 0, none⟩), 2, some ⟨q + 4, 0, none⟩, 1, none, 0⟩ (badP 4) V 2 1 2 1 0 (HPR.out V hb) hwd.out rfl rfl rfl rfl rfl false HRT.out 0 0 0 rfl)
                    obtain ⟨l2, y0, y1, y2, y3, y4⟩ := pol5 HP3.out
                    go_wp2_with fail
                    (with_reducible refine (HRI.out _ (Below.refl _ _)).mono ?_)
                    rintro e t1 ⟨rfl, hb⟩
                    have HT1 := Lib.hid (hb)
                    clear hb l2 y0 y1 y2 y3 y4
                    obtain ⟨l2, y0, y1, y2, y3, y4⟩ := pol5 (HP3.out.below HT1.out HP3.out.lt)
                    go_wp2_with fail
                    (with_reducible refine (HMA.out _ HT1.out).mono ?_)
                    rintro e t2 ⟨rfl, hb⟩
                    have HT2 := Lib.hid (HT1.out.trans (hb.mono HT1.out.size))
                    clear hb l2 y0 y1 y2 y3 y4
                    obtain ⟨l2, y0, y1, y2, y3, y4⟩ := pol5 (HP3.out.below HT2.out HP3.out.lt)
                    go_wp2_with fail
                    (with_reducible refine (HSE.out _ HT2.out).mono ?_)
                    rintro e t3 ⟨rfl, hb⟩
                    have HT3 := Lib.hid (HT2.out.trans (hb.mono HT2.out.size))
                    clear hb l2 y0 y1 y2 y3 y4
                    obtain ⟨l2, y0, y1, y2, y3, y4⟩ := pol5 (HP3.out.below HT3.out HP3.out.lt)
                    go_wp2_with fail
                    (with_reducible refine (HLA.out _ HT3.out).mono ?_)
                    rintro e t4 ⟨rfl, hb⟩
                    have HT4 := Lib.hid (HT3.out.trans (hb.mono HT3.out.size))
                    clear hb l2 y0 y1 y2 y3 y4
                    have HF9 := Lib.hid (HB3.out.trans (HT4.out.mono HB3.out.size))
                    go_wp2
                    go_roundw
                    case rel => exact ⟨5, by omega, by first | rfl | go_num, HF9.out⟩
                    case measure => simp [intOf]
                · skip
                  by_cases hk5 : k = 5
                  · subst hk5
                    as_aux_lemma =>
                      obtain ⟨l2, y0, y1, y2, y3, y4⟩ := pol5 HP2.out
                      have f0 := HP2.out.frozen 2
                      obtain ⟨V3, hV3⟩ : ∃ V, V2.setCell ⟨gz, 2, none⟩ (.slice none 0 0) = V := ⟨_, rfl⟩
                      have HB3 := Lib.hid (show Below w.heap.size w V3 from by rw [← hV3]; exact HX2.out.setCell (p := ⟨gz, 2, none⟩) (by show w.heap.size ≤ gz; omega) _)
                      have HP3 := Lib.hid (show Blk V3 gz 28 #[.slice (some ⟨q + 1, 0, none⟩) 2 2, .slice (some ⟨q + 2, 0, none⟩) 1 1, .slice none 0 0, .slice (some ⟨q + 4, 0, none⟩) 1 1, .slice none 0 0] from by rw [← hV3]; have h := HP2.out.set_ 2 (.slice none 0 0); simpa using h)
                      have HC1 := Lib.hid (show Blk V3 (q + 1) 46 #[.int .i64 1, .int .i64 0, .int .i64 (-1), .int .i64 10000, .int .i64 2, .int .i64 0, .int .i64 0, .int .i64 5000] from by rw [← hV3]; exact HS2.out.1.far (p := ⟨gz, 2, none⟩) (by show q + 1 ≠ gz; omega) _)
                      have HC2 := Lib.hid (show Blk V3 (q + 2) 30 #[.int .u64 3] from by rw [← hV3]; exact HS2.out.2.1.far (p := ⟨gz, 2, none⟩) (by show q + 2 ≠ gz; omega) _)
                      have HC3 := Lib.hid (show Blk V3 (q + 3) 48 #[.int .u64 3, .int .i64 2, .int .u64 1, .int .u64 1, .int .i64 1, .int .u64 0] from by rw [← hV3]; exact HS2.out.2.2.1.far (p := ⟨gz, 2, none⟩) (by show q + 3 ≠ gz; omega) _)
                      have HC4 := Lib.hid (show Blk V3 (q + 4) 3 #[.int .i64 (-1)] from by rw [← hV3]; exact HS2.out.2.2.2.far (p := ⟨gz, 2, none⟩) (by show q + 4 ≠ gz; omega) _)
                      have HV3 := Lib.hid hV3
                      clear hV3
                      go_upto_region 34 with fail
                      rw [HV3.out]
                      clear HV3 l2 y0 y1 y2 y3 y4
                      have HPR := Lib.hid (fun (V : World) (hb : Below V3.heap.size V3 V) => (show PolRd V V3.heap.size ⟨some ⟨q + 1, 0, none⟩, 2, some ⟨q + 2, 0, none⟩, 1, none, 0, some ⟨q + 4, 0, none⟩, 1, none, 0⟩ (badP 5) from ⟨blk_rd (HC1.out.below hb HC1.out.lt) HC1.out.lt rfl, blk_rd (HC2.out.below hb HC2.out.lt) HC2.out.lt rfl, nil_rd _ _ _ _, rd_il (blk_rd (HC4.out.below hb HC4.out.lt) HC4.out.lt rfl) rfl (Nat.le_refl _), nil_rd _ _ _ _⟩).more hb.size)
                      have hwd := Lib.hid (wd_of (P := badP 5) (by decide +kernel))
                      have HRT := Lib.hid (right_dec (badP 5) false (by decide +kernel))
                      have HRI := Lib.hid (fun (V : World) (hb : Below V3.heap.size V3 V) => show Calls Try.prog 7 #[.agg #[.slice (some ⟨q + 1, 0, none⟩) 2 2, .slice (some ⟨q + 2, 0, none⟩) 1 1, .slice none 0 0, .slice (some ⟨q + 4, 0, none⟩) 1 1, .slice none 0 0]] V (RetB V false) from ruRight_c ⟨some ⟨q + 1, 0, none⟩, 2, some ⟨q + 2, 0, none⟩, 1, none, 0, some ⟨q + 4, 0, none⟩, 1, none, 0⟩ (badP 5) V 2 1 0 1 0 (HPR.out V hb) hwd.out rfl rfl rfl rfl rfl false HRT.out)
                      have HMA := Lib.hid (fun (V : World) (hb : Below V3.heap.size V3 V) => show Calls Try.prog 8 #[.agg #[.slice (some ⟨q + 1, 0, none⟩) 2 2, .slice (some ⟨q + 2, 0, none⟩) 1 1, .slice none 0 0, .slice (some ⟨q + 4, 0, none⟩) 1 1, .slice none 0 0], .int .i64 0, .int .i64 1, .int .i64 0] V (RetB V false) from ruMay_c ⟨some ⟨q + 1, 0, none⟩, 2, some ⟨q + 2, 0, none⟩, 1, none, 0, some ⟨q + 4, 0, none⟩, 1, none, 0⟩ (badP 5) V 2 1 0 1 0 (HPR.out V hb) hwd.out rfl rfl rfl rfl rfl false HRT.out 0 1 0 false rfl)
                      have HSE := Lib.hid (fun (V : World) (hb : Below V3.heap.size V3 V) => show Calls Try.prog 11 #[.agg #[.slice (some ⟨q + 1, 0, none⟩) 2 2, .slice (some ⟨q + 2, 0, none⟩) 1 1, .slice none 0 0, .slice (some ⟨q + 4, 0, none⟩) 1 1, .slice none 0 0], .int .i64 0, .agg #[.int .u64 0, .int .i64 0]] V (RetB V false) from ruSees_c ⟨some ⟨q + 1, 0, none⟩, 2, some ⟨q + 2, 0, none⟩, 1, none, 0, some ⟨q + 4, 0, none⟩, 1, none, 0⟩ (badP 5) V 2 1 0 1 0 (HPR.out V hb) hwd.out rfl rfl rfl rfl rfl false HRT.out 0 0 0 (by decide) false rfl)
                      have HLA := Lib.hid (fun (V : World) (hb : Below V3.heap.size V3 V) => show Calls Try.prog 9 #[.agg #[.slice (some ⟨q + 1, 0, none⟩) 2 2, .slice (some ⟨q + 2, 0, none⟩) 1 1, .slice none 0 0, .slice (some ⟨q + 4, 0, none⟩) 1 1, .slice none 0 0], .int .i64 0] V (RetL V 0 0) from ruLabel_c ⟨some ⟨q + 1, 0, none⟩, 2, some ⟨q + 2, 0, none⟩, 1, none, 0, some ⟨q + 4, 0, none⟩, 1, none, 0⟩ (badP 5) V 2 1 0 1 0 (HPR.out V hb) hwd.out rfl rfl rfl rfl rfl false HRT.out 0 0 0 rfl)
                      obtain ⟨l2, y0, y1, y2, y3, y4⟩ := pol5 HP3.out
                      go_wp2_with fail
                      (with_reducible refine (HRI.out _ (Below.refl _ _)).mono ?_)
                      rintro e t1 ⟨rfl, hb⟩
                      have HT1 := Lib.hid (hb)
                      clear hb l2 y0 y1 y2 y3 y4
                      obtain ⟨l2, y0, y1, y2, y3, y4⟩ := pol5 (HP3.out.below HT1.out HP3.out.lt)
                      go_wp2_with fail
                      (with_reducible refine (HMA.out _ HT1.out).mono ?_)
                      rintro e t2 ⟨rfl, hb⟩
                      have HT2 := Lib.hid (HT1.out.trans (hb.mono HT1.out.size))
                      clear hb l2 y0 y1 y2 y3 y4
                      obtain ⟨l2, y0, y1, y2, y3, y4⟩ := pol5 (HP3.out.below HT2.out HP3.out.lt)
                      go_wp2_with fail
                      (with_reducible refine (HSE.out _ HT2.out).mono ?_)
                      rintro e t3 ⟨rfl, hb⟩
                      have HT3 := Lib.hid (HT2.out.trans (hb.mono HT2.out.size))
                      clear hb l2 y0 y1 y2 y3 y4
                      obtain ⟨l2, y0, y1, y2, y3, y4⟩ := pol5 (HP3.out.below HT3.out HP3.out.lt)
                      go_wp2_with fail
                      (with_reducible refine (HLA.out _ HT3.out).mono ?_)
                      rintro e t4 ⟨rfl, hb⟩
                      have HT4 := Lib.hid (HT3.out.trans (hb.mono HT3.out.size))
                      clear hb l2 y0 y1 y2 y3 y4
                      have HF9 := Lib.hid (HB3.out.trans (HT4.out.mono HB3.out.size))
                      go_wp2
                      go_roundw
                      case rel => exact ⟨6, by omega, by first | rfl | go_num, HF9.out⟩
                      case measure => simp [intOf]
                  · skip
                    by_cases hk6 : k = 6
                    · subst hk6
                      as_aux_lemma =>
                        obtain ⟨l2, y0, y1, y2, y3, y4⟩ := pol5 HP2.out
                        have c0 : V2.cell? ⟨q + 3, 1, none⟩ = some (.int .i64 2) := (HS2.out.2.2.1.cell 1).trans rfl
                        have f0 := HS2.out.2.2.1.frozen 1
                        have cl := HS2.out.2.2.1.lt
                        obtain ⟨V3, hV3⟩ : ∃ V, V2.setCell ⟨q + 3, 1, none⟩ (.int .i64 4) = V := ⟨_, rfl⟩
                        have HB3 := Lib.hid (show Below w.heap.size w V3 from by rw [← hV3]; exact HX2.out.setCell (p := ⟨q + 3, 1, none⟩) (by show w.heap.size ≤ q + 3; omega) _)
                        have HP3 := Lib.hid (show Blk V3 gz 28 #[.slice (some ⟨q + 1, 0, none⟩) 2 2, .slice (some ⟨q + 2, 0, none⟩) 1 1, .slice (some ⟨q + 3, 0, none⟩) 2 2, .slice (some ⟨q + 4, 0, none⟩) 1 1, .slice none 0 0] from by rw [← hV3]; exact HP2.out.far (p := ⟨q + 3, 1, none⟩) (by show gz ≠ q + 3; omega) _)
                        have HC1 := Lib.hid (show Blk V3 (q + 1) 46 #[.int .i64 1, .int .i64 0, .int .i64 (-1), .int .i64 10000, .int .i64 2, .int .i64 0, .int .i64 0, .int .i64 5000] from by rw [← hV3]; exact HS2.out.1.far (p := ⟨q + 3, 1, none⟩) (by show q + 1 ≠ q + 3; omega) _)
                        have HC2 := Lib.hid (show Blk V3 (q + 2) 30 #[.int .u64 3] from by rw [← hV3]; exact HS2.out.2.1.far (p := ⟨q + 3, 1, none⟩) (by show q + 2 ≠ q + 3; omega) _)
                        have HC3 := Lib.hid (show Blk V3 (q + 3) 48 #[.int .u64 3, .int .i64 4, .int .u64 1, .int .u64 1, .int .i64 1, .int .u64 0] from by rw [← hV3]; have h := HS2.out.2.2.1.set_ 1 (.int .i64 4); simpa [entC, whoC] using h)
                        have HC4 := Lib.hid (show Blk V3 (q + 4) 3 #[.int .i64 (-1)] from by rw [← hV3]; exact HS2.out.2.2.2.far (p := ⟨q + 3, 1, none⟩) (by show q + 4 ≠ q + 3; omega) _)
                        have HV3 := Lib.hid hV3
                        clear hV3
                        go_upto_region 34 with fail
                        rw [HV3.out]
                        clear HV3 l2 y0 y1 y2 y3 y4
                        have HPR := Lib.hid (fun (V : World) (hb : Below V3.heap.size V3 V) => (show PolRd V V3.heap.size ⟨some ⟨q + 1, 0, none⟩, 2, some ⟨q + 2, 0, none⟩, 1, (some ⟨q + 3, 0, none⟩), 2, some ⟨q + 4, 0, none⟩, 1, none, 0⟩ (badP 6) from ⟨blk_rd (HC1.out.below hb HC1.out.lt) HC1.out.lt rfl, blk_rd (HC2.out.below hb HC2.out.lt) HC2.out.lt rfl, blk_rd (HC3.out.below hb HC3.out.lt) HC3.out.lt rfl, rd_il (blk_rd (HC4.out.below hb HC4.out.lt) HC4.out.lt rfl) rfl (Nat.le_refl _), nil_rd _ _ _ _⟩).more hb.size)
                        have hwd := Lib.hid (wd_of (P := badP 6) (by decide +kernel))
                        have HRT := Lib.hid (right_dec (badP 6) false (by decide +kernel))
                        have HRI := Lib.hid (fun (V : World) (hb : Below V3.heap.size V3 V) => show Calls Try.prog 7 #[.agg #[.slice (some ⟨q + 1, 0, none⟩) 2 2, .slice (some ⟨q + 2, 0, none⟩) 1 1, .slice (some ⟨q + 3, 0, none⟩) 2 2, .slice (some ⟨q + 4, 0, none⟩) 1 1, .slice none 0 0]] V (RetB V false) from ruRight_c ⟨some ⟨q + 1, 0, none⟩, 2, some ⟨q + 2, 0, none⟩, 1, (some ⟨q + 3, 0, none⟩), 2, some ⟨q + 4, 0, none⟩, 1, none, 0⟩ (badP 6) V 2 1 2 1 0 (HPR.out V hb) hwd.out rfl rfl rfl rfl rfl false HRT.out)
                        have HMA := Lib.hid (fun (V : World) (hb : Below V3.heap.size V3 V) => show Calls Try.prog 8 #[.agg #[.slice (some ⟨q + 1, 0, none⟩) 2 2, .slice (some ⟨q + 2, 0, none⟩) 1 1, .slice (some ⟨q + 3, 0, none⟩) 2 2, .slice (some ⟨q + 4, 0, none⟩) 1 1, .slice none 0 0], .int .i64 0, .int .i64 1, .int .i64 0] V (RetB V false) from ruMay_c ⟨some ⟨q + 1, 0, none⟩, 2, some ⟨q + 2, 0, none⟩, 1, (some ⟨q + 3, 0, none⟩), 2, some ⟨q + 4, 0, none⟩, 1, none, 0⟩ (badP 6) V 2 1 2 1 0 (HPR.out V hb) hwd.out rfl rfl rfl rfl rfl false HRT.out 0 1 0 false rfl)
                        have HSE := Lib.hid (fun (V : World) (hb : Below V3.heap.size V3 V) => show Calls Try.prog 11 #[.agg #[.slice (some ⟨q + 1, 0, none⟩) 2 2, .slice (some ⟨q + 2, 0, none⟩) 1 1, .slice (some ⟨q + 3, 0, none⟩) 2 2, .slice (some ⟨q + 4, 0, none⟩) 1 1, .slice none 0 0], .int .i64 0, .agg #[.int .u64 0, .int .i64 0]] V (RetB V false) from ruSees_c ⟨some ⟨q + 1, 0, none⟩, 2, some ⟨q + 2, 0, none⟩, 1, (some ⟨q + 3, 0, none⟩), 2, some ⟨q + 4, 0, none⟩, 1, none, 0⟩ (badP 6) V 2 1 2 1 0 (HPR.out V hb) hwd.out rfl rfl rfl rfl rfl false HRT.out 0 0 0 (by decide) false rfl)
                        have HLA := Lib.hid (fun (V : World) (hb : Below V3.heap.size V3 V) => show Calls Try.prog 9 #[.agg #[.slice (some ⟨q + 1, 0, none⟩) 2 2, .slice (some ⟨q + 2, 0, none⟩) 1 1, .slice (some ⟨q + 3, 0, none⟩) 2 2, .slice (some ⟨q + 4, 0, none⟩) 1 1, .slice none 0 0], .int .i64 0] V (RetL V 0 0) from ruLabel_c ⟨some ⟨q + 1, 0, none⟩, 2, some ⟨q + 2, 0, none⟩, 1, (some ⟨q + 3, 0, none⟩), 2, some ⟨q + 4, 0, none⟩, 1, none, 0⟩ (badP 6) V 2 1 2 1 0 (HPR.out V hb) hwd.out rfl rfl rfl rfl rfl false HRT.out 0 0 0 rfl)
                        obtain ⟨l2, y0, y1, y2, y3, y4⟩ := pol5 HP3.out
                        go_wp2_with fail
                        (with_reducible refine (HRI.out _ (Below.refl _ _)).mono ?_)
                        rintro e t1 ⟨rfl, hb⟩
                        have HT1 := Lib.hid (hb)
                        clear hb l2 y0 y1 y2 y3 y4
                        obtain ⟨l2, y0, y1, y2, y3, y4⟩ := pol5 (HP3.out.below HT1.out HP3.out.lt)
                        go_wp2_with fail
                        (with_reducible refine (HMA.out _ HT1.out).mono ?_)
                        rintro e t2 ⟨rfl, hb⟩
                        have HT2 := Lib.hid (HT1.out.trans (hb.mono HT1.out.size))
                        clear hb l2 y0 y1 y2 y3 y4
                        obtain ⟨l2, y0, y1, y2, y3, y4⟩ := pol5 (HP3.out.below HT2.out HP3.out.lt)
                        go_wp2_with fail
                        (with_reducible refine (HSE.out _ HT2.out).mono ?_)
                        rintro e t3 ⟨rfl, hb⟩
                        have HT3 := Lib.hid (HT2.out.trans (hb.mono HT2.out.size))
                        clear hb l2 y0 y1 y2 y3 y4
                        obtain ⟨l2, y0, y1, y2, y3, y4⟩ := pol5 (HP3.out.below HT3.out HP3.out.lt)
                        go_wp2_with fail
                        (with_reducible refine (HLA.out _ HT3.out).mono ?_)
                        rintro e t4 ⟨rfl, hb⟩
                        have HT4 := Lib.hid (HT3.out.trans (hb.mono HT3.out.size))
                        clear hb l2 y0 y1 y2 y3 y4
                        have HF9 := Lib.hid (HB3.out.trans (HT4.out.mono HB3.out.size))
                        go_wp2
                        go_roundw
                        case rel => exact ⟨7, by omega, by first | rfl | go_num, HF9.out⟩
                        case measure => simp [intOf]
                    · skip
                      by_cases hk7 : k = 7
                      · subst hk7
                        as_aux_lemma =>
                          obtain ⟨l2, y0, y1, y2, y3, y4⟩ := pol5 HP2.out
                          have c0 : V2.cell? ⟨q + 4, 0, none⟩ = some (.int .i64 (-1)) := (HS2.out.2.2.2.cell 0).trans rfl
                          have f0 := HS2.out.2.2.2.frozen 0
                          have cl := HS2.out.2.2.2.lt
                          obtain ⟨V3, hV3⟩ : ∃ V, V2.setCell ⟨q + 4, 0, none⟩ (.int .i64 0) = V := ⟨_, rfl⟩
                          have HB3 := Lib.hid (show Below w.heap.size w V3 from by rw [← hV3]; exact HX2.out.setCell (p := ⟨q + 4, 0, none⟩) (by show w.heap.size ≤ q + 4; omega) _)
                          have HP3 := Lib.hid (show Blk V3 gz 28 #[.slice (some ⟨q + 1, 0, none⟩) 2 2, .slice (some ⟨q + 2, 0, none⟩) 1 1, .slice (some ⟨q + 3, 0, none⟩) 2 2, .slice (some ⟨q + 4, 0, none⟩) 1 1, .slice none 0 0] from by rw [← hV3]; exact HP2.out.far (p := ⟨q + 4, 0, none⟩) (by show gz ≠ q + 4; omega) _)
                          have HC1 := Lib.hid (show Blk V3 (q + 1) 46 #[.int .i64 1, .int .i64 0, .int .i64 (-1), .int .i64 10000, .int .i64 2, .int .i64 0, .int .i64 0, .int .i64 5000] from by rw [← hV3]; exact HS2.out.1.far (p := ⟨q + 4, 0, none⟩) (by show q + 1 ≠ q + 4; omega) _)
                          have HC2 := Lib.hid (show Blk V3 (q + 2) 30 #[.int .u64 3] from by rw [← hV3]; exact HS2.out.2.1.far (p := ⟨q + 4, 0, none⟩) (by show q + 2 ≠ q + 4; omega) _)
                          have HC3 := Lib.hid (show Blk V3 (q + 3) 48 #[.int .u64 3, .int .i64 2, .int .u64 1, .int .u64 1, .int .i64 1, .int .u64 0] from by rw [← hV3]; exact HS2.out.2.2.1.far (p := ⟨q + 4, 0, none⟩) (by show q + 3 ≠ q + 4; omega) _)
                          have HC4 := Lib.hid (show Blk V3 (q + 4) 3 #[.int .i64 0] from by rw [← hV3]; have h := HS2.out.2.2.2.set_ 0 (.int .i64 0); simpa [entC, whoC] using h)
                          have HV3 := Lib.hid hV3
                          clear hV3
                          go_upto_region 34 with fail
                          rw [HV3.out]
                          clear HV3 l2 y0 y1 y2 y3 y4
                          have HPR := Lib.hid (fun (V : World) (hb : Below V3.heap.size V3 V) => (show PolRd V V3.heap.size ⟨some ⟨q + 1, 0, none⟩, 2, some ⟨q + 2, 0, none⟩, 1, (some ⟨q + 3, 0, none⟩), 2, some ⟨q + 4, 0, none⟩, 1, none, 0⟩ (badP 7) from ⟨blk_rd (HC1.out.below hb HC1.out.lt) HC1.out.lt rfl, blk_rd (HC2.out.below hb HC2.out.lt) HC2.out.lt rfl, blk_rd (HC3.out.below hb HC3.out.lt) HC3.out.lt rfl, rd_il (blk_rd (HC4.out.below hb HC4.out.lt) HC4.out.lt rfl) rfl (Nat.le_refl _), nil_rd _ _ _ _⟩).more hb.size)
                          have hwd := Lib.hid (wd_of (P := badP 7) (by decide +kernel))
                          have HRT := Lib.hid (right_dec (badP 7) false (by decide +kernel))
                          have HRI := Lib.hid (fun (V : World) (hb : Below V3.heap.size V3 V) => show Calls Try.prog 7 #[.agg #[.slice (some ⟨q + 1, 0, none⟩) 2 2, .slice (some ⟨q + 2, 0, none⟩) 1 1, .slice (some ⟨q + 3, 0, none⟩) 2 2, .slice (some ⟨q + 4, 0, none⟩) 1 1, .slice none 0 0]] V (RetB V false) from ruRight_c ⟨some ⟨q + 1, 0, none⟩, 2, some ⟨q + 2, 0, none⟩, 1, (some ⟨q + 3, 0, none⟩), 2, some ⟨q + 4, 0, none⟩, 1, none, 0⟩ (badP 7) V 2 1 2 1 0 (HPR.out V hb) hwd.out rfl rfl rfl rfl rfl false HRT.out)
                          have HMA := Lib.hid (fun (V : World) (hb : Below V3.heap.size V3 V) => show Calls Try.prog 8 #[.agg #[.slice (some ⟨q + 1, 0, none⟩) 2 2, .slice (some ⟨q + 2, 0, none⟩) 1 1, .slice (some ⟨q + 3, 0, none⟩) 2 2, .slice (some ⟨q + 4, 0, none⟩) 1 1, .slice none 0 0], .int .i64 0, .int .i64 1, .int .i64 0] V (RetB V false) from ruMay_c ⟨some ⟨q + 1, 0, none⟩, 2, some ⟨q + 2, 0, none⟩, 1, (some ⟨q + 3, 0, none⟩), 2, some ⟨q + 4, 0, none⟩, 1, none, 0⟩ (badP 7) V 2 1 2 1 0 (HPR.out V hb) hwd.out rfl rfl rfl rfl rfl false HRT.out 0 1 0 false rfl)
                          have HSE := Lib.hid (fun (V : World) (hb : Below V3.heap.size V3 V) => show Calls Try.prog 11 #[.agg #[.slice (some ⟨q + 1, 0, none⟩) 2 2, .slice (some ⟨q + 2, 0, none⟩) 1 1, .slice (some ⟨q + 3, 0, none⟩) 2 2, .slice (some ⟨q + 4, 0, none⟩) 1 1, .slice none 0 0], .int .i64 0, .agg #[.int .u64 0, .int .i64 0]] V (RetB V false) from ruSees_c ⟨some ⟨q + 1, 0, none⟩, 2, some ⟨q + 2, 0, none⟩, 1, (some ⟨q + 3, 0, none⟩), 2, some ⟨q + 4, 0, none⟩, 1, none, 0⟩ (badP 7) V 2 1 2 1 0 (HPR.out V hb) hwd.out rfl rfl rfl rfl rfl false HRT.out 0 0 0 (by decide) false rfl)
                          have HLA := Lib.hid (fun (V : World) (hb : Below V3.heap.size V3 V) => show Calls Try.prog 9 #[.agg #[.slice (some ⟨q + 1, 0, none⟩) 2 2, .slice (some ⟨q + 2, 0, none⟩) 1 1, .slice (some ⟨q + 3, 0, none⟩) 2 2, .slice (some ⟨q + 4, 0, none⟩) 1 1, .slice none 0 0], .int .i64 0] V (RetL V 0 0) from ruLabel_c ⟨some ⟨q + 1, 0, none⟩, 2, some ⟨q + 2, 0, none⟩, 1, (some ⟨q + 3, 0, none⟩), 2, some ⟨q + 4, 0, none⟩, 1, none, 0⟩ (badP 7) V 2 1 2 1 0 (HPR.out V hb) hwd.out rfl rfl rfl rfl rfl false HRT.out 0 0 0 rfl)
                          obtain ⟨l2, y0, y1, y2, y3, y4⟩ := pol5 HP3.out
                          go_wp2_with fail
                          (with_reducible refine (HRI.out _ (Below.refl _ _)).mono ?_)
                          rintro e t1 ⟨rfl, hb⟩
                          have HT1 := Lib.hid (hb)
                          clear hb l2 y0 y1 y2 y3 y4
                          obtain ⟨l2, y0, y1, y2, y3, y4⟩ := pol5 (HP3.out.below HT1.out HP3.out.lt)
                          go_wp2_with fail
                          (with_reducible refine (HMA.out _ HT1.out).mono ?_)
                          rintro e t2 ⟨rfl, hb⟩
                          have HT2 := Lib.hid (HT1.out.trans (hb.mono HT1.out.size))
                          clear hb l2 y0 y1 y2 y3 y4
                          obtain ⟨l2, y0, y1, y2, y3, y4⟩ := pol5 (HP3.out.below HT2.out HP3.out.lt)
                          go_wp2_with fail
                          (with_reducible refine (HSE.out _ HT2.out).mono ?_)
                          rintro e t3 ⟨rfl, hb⟩
                          have HT3 := Lib.hid (HT2.out.trans (hb.mono HT2.out.size))
                          clear hb l2 y0 y1 y2 y3 y4
                          obtain ⟨l2, y0, y1, y2, y3, y4⟩ := pol5 (HP3.out.below HT3.out HP3.out.lt)
                          go_wp2_with fail
                          (with_reducible refine (HLA.out _ HT3.out).mono ?_)
                          rintro e t4 ⟨rfl, hb⟩
                          have HT4 := Lib.hid (HT3.out.trans (hb.mono HT3.out.size))
                          clear hb l2 y0 y1 y2 y3 y4
                          have HF9 := Lib.hid (HB3.out.trans (HT4.out.mono HB3.out.size))
                          go_wp2
                          go_roundw
                          case rel => exact ⟨8, by omega, by first | rfl | go_num, HF9.out⟩
                          case measure => simp [intOf]
                      · skip
                        by_cases hk8 : k = 8
                        · subst hk8
                          as_aux_lemma =>
                            obtain ⟨l2, y0, y1, y2, y3, y4⟩ := pol5 HP2.out
                            have f4 := HP2.out.frozen 4
                            obtain ⟨gr, hgr⟩ : ∃ x, V2.heap.size = x := ⟨_, rfl⟩
                            obtain ⟨V3, hV3⟩ : ∃ V, (V2.setCell ⟨gz, 4, none⟩ (.slice (some ⟨gr, 0, none⟩) 1 1)).alloc (.cells #[.int .i64 1, .int .i64 1, .int .i64 1, .int .i64 (-1), .int .i64 0, .int .i64 0, .bool false, .int .u64 0, .int .u64 0, .int .i64 0, .int .u64 0, .int .i64 0] 37) = V := ⟨_, rfl⟩
                            have HB3 := Lib.hid (show Below w.heap.size w V3 from by rw [← hV3]; exact bel_alloc (HX2.out.setCell (p := ⟨gz, 4, none⟩) (by show w.heap.size ≤ gz; omega) _) _)
                            have HP3 := Lib.hid (show Blk V3 gz 28 #[.slice (some ⟨q + 1, 0, none⟩) 2 2, .slice (some ⟨q + 2, 0, none⟩) 1 1, .slice (some ⟨q + 3, 0, none⟩) 2 2, .slice (some ⟨q + 4, 0, none⟩) 1 1, .slice (some ⟨gr, 0, none⟩) 1 1] from by rw [← hV3]; have h := (HP2.out.set_ 4 (.slice (some ⟨gr, 0, none⟩) 1 1)).alloc (.cells #[.int .i64 1, .int .i64 1, .int .i64 1, .int .i64 (-1), .int .i64 0, .int .i64 0, .bool false, .int .u64 0, .int .u64 0, .int .i64 0, .int .u64 0, .int .i64 0] 37); simpa using h)
                            have HC5 := Lib.hid (show Blk V3 gr 37 #[.int .i64 1, .int .i64 1, .int .i64 1, .int .i64 (-1), .int .i64 0, .int .i64 0, .bool false, .int .u64 0, .int .u64 0, .int .i64 0, .int .u64 0, .int .i64 0] from by rw [← hV3]; exact blk_at (by simp; exact hgr))
                            have HGR2 := Lib.hid hgr
                            clear hgr
                            have HC1 := Lib.hid (show Blk V3 (q + 1) 46 #[.int .i64 1, .int .i64 0, .int .i64 (-1), .int .i64 10000, .int .i64 2, .int .i64 0, .int .i64 0, .int .i64 5000] from by rw [← hV3]; exact (HS2.out.1.far (p := ⟨gz, 4, none⟩) (by show q + 1 ≠ gz; omega) _).alloc _)
                            have HC2 := Lib.hid (show Blk V3 (q + 2) 30 #[.int .u64 3] from by rw [← hV3]; exact (HS2.out.2.1.far (p := ⟨gz, 4, none⟩) (by show q + 2 ≠ gz; omega) _).alloc _)
                            have HC3 := Lib.hid (show Blk V3 (q + 3) 48 #[.int .u64 3, .int .i64 2, .int .u64 1, .int .u64 1, .int .i64 1, .int .u64 0] from by rw [← hV3]; exact (HS2.out.2.2.1.far (p := ⟨gz, 4, none⟩) (by show q + 3 ≠ gz; omega) _).alloc _)
                            have HC4 := Lib.hid (show Blk V3 (q + 4) 3 #[.int .i64 (-1)] from by rw [← hV3]; exact (HS2.out.2.2.2.far (p := ⟨gz, 4, none⟩) (by show q + 4 ≠ gz; omega) _).alloc _)
                            go_upto_region 29 with fail
                            refine wp_region_lit ?_
                            refine wpList_val (v := .agg #[.int .i64 1, .int .i64 1, .int .i64 1, .int .i64 (-1), .int .i64 0, .int .i64 0, .bool false, .int .u64 0, .int .u64 0, .int .i64 0, .int .u64 0, .int .i64 0]) (w' := V2) rfl (by kernel_rfl) ?_
                            simp only [Act.put, List.setIfInBounds_toArray, List.set_cons_zero, List.set_cons_succ]
                            refine wpList_val (v := .slice (some ⟨gr, 0, none⟩) 1 1) (w' := V2.alloc (.cells #[.int .i64 1, .int .i64 1, .int .i64 1, .int .i64 (-1), .int .i64 0, .int .i64 0, .bool false, .int .u64 0, .int .u64 0, .int .i64 0, .int .u64 0, .int .i64 0] 37)) rfl ?_ ?_
                            · rw [← HGR2.out]
                              exact lit_run rfl rfl
                            simp only [Act.put, List.setIfInBounds_toArray, List.set_cons_zero, List.set_cons_succ]
                            have HV3 := Lib.hid hV3
                            clear hV3
                            go_upto_region 34 with fail
                            rw [HV3.out]
                            clear HV3 l2 y0 y1 y2 y3 y4
                            have HPR := Lib.hid (fun (V : World) (hb : Below V3.heap.size V3 V) => (show PolRd V V3.heap.size ⟨some ⟨q + 1, 0, none⟩, 2, some ⟨q + 2, 0, none⟩, 1, (some ⟨q + 3, 0, none⟩), 2, some ⟨q + 4, 0, none⟩, 1, (some ⟨gr, 0, none⟩), 1⟩ (badP 8) from ⟨blk_rd (HC1.out.below hb HC1.out.lt) HC1.out.lt rfl, blk_rd (HC2.out.below hb HC2.out.lt) HC2.out.lt rfl, blk_rd (HC3.out.below hb HC3.out.lt) HC3.out.lt rfl, rd_il (blk_rd (HC4.out.below hb HC4.out.lt) HC4.out.lt rfl) rfl (Nat.le_refl _), blk_rd (HC5.out.below hb HC5.out.lt) HC5.out.lt rfl⟩).more hb.size)
                            have hwd := Lib.hid (wd_of (P := badP 8) (by decide +kernel))
                            have HRT := Lib.hid (right_dec (badP 8) false (by decide +kernel))
                            have HRI := Lib.hid (fun (V : World) (hb : Below V3.heap.size V3 V) => show Calls Try.prog 7 #[.agg #[.slice (some ⟨q + 1, 0, none⟩) 2 2, .slice (some ⟨q + 2, 0, none⟩) 1 1, .slice (some ⟨q + 3, 0, none⟩) 2 2, .slice (some ⟨q + 4, 0, none⟩) 1 1, .slice (some ⟨gr, 0, none⟩) 1 1]] V (RetB V false) from ruRight_c ⟨some ⟨q + 1, 0, none⟩, 2, some ⟨q + 2, 0, none⟩, 1, (some ⟨q + 3, 0, none⟩), 2, some ⟨q + 4, 0, none⟩, 1, (some ⟨gr, 0, none⟩), 1⟩ (badP 8) V 2 1 2 1 1 (HPR.out V hb) hwd.out rfl rfl rfl rfl rfl false HRT.out)
                            have HMA := Lib.hid (fun (V : World) (hb : Below V3.heap.size V3 V) => show Calls Try.prog 8 #[.agg #[.slice (some ⟨q + 1, 0, none⟩) 2 2, .slice (some ⟨q + 2, 0, none⟩) 1 1, .slice (some ⟨q + 3, 0, none⟩) 2 2, .slice (some ⟨q + 4, 0, none⟩) 1 1, .slice (some ⟨gr, 0, none⟩) 1 1], .int .i64 0, .int .i64 1, .int .i64 0] V (RetB V false) from ruMay_c ⟨some ⟨q + 1, 0, none⟩, 2, some ⟨q + 2, 0, none⟩, 1, (some ⟨q + 3, 0, none⟩), 2, some ⟨q + 4, 0, none⟩, 1, (some ⟨gr, 0, none⟩), 1⟩ (badP 8) V 2 1 2 1 1 (HPR.out V hb) hwd.out rfl rfl rfl rfl rfl false HRT.out 0 1 0 false rfl)
                            have HSE := Lib.hid (fun (V : World) (hb : Below V3.heap.size V3 V) => show Calls Try.prog 11 #[.agg #[.slice (some ⟨q + 1, 0, none⟩) 2 2, .slice (some ⟨q + 2, 0, none⟩) 1 1, .slice (some ⟨q + 3, 0, none⟩) 2 2, .slice (some ⟨q + 4, 0, none⟩) 1 1, .slice (some ⟨gr, 0, none⟩) 1 1], .int .i64 0, .agg #[.int .u64 0, .int .i64 0]] V (RetB V false) from ruSees_c ⟨some ⟨q + 1, 0, none⟩, 2, some ⟨q + 2, 0, none⟩, 1, (some ⟨q + 3, 0, none⟩), 2, some ⟨q + 4, 0, none⟩, 1, (some ⟨gr, 0, none⟩), 1⟩ (badP 8) V 2 1 2 1 1 (HPR.out V hb) hwd.out rfl rfl rfl rfl rfl false HRT.out 0 0 0 (by decide) false rfl)
                            have HLA := Lib.hid (fun (V : World) (hb : Below V3.heap.size V3 V) => show Calls Try.prog 9 #[.agg #[.slice (some ⟨q + 1, 0, none⟩) 2 2, .slice (some ⟨q + 2, 0, none⟩) 1 1, .slice (some ⟨q + 3, 0, none⟩) 2 2, .slice (some ⟨q + 4, 0, none⟩) 1 1, .slice (some ⟨gr, 0, none⟩) 1 1], .int .i64 0] V (RetL V 0 0) from ruLabel_c ⟨some ⟨q + 1, 0, none⟩, 2, some ⟨q + 2, 0, none⟩, 1, (some ⟨q + 3, 0, none⟩), 2, some ⟨q + 4, 0, none⟩, 1, (some ⟨gr, 0, none⟩), 1⟩ (badP 8) V 2 1 2 1 1 (HPR.out V hb) hwd.out rfl rfl rfl rfl rfl false HRT.out 0 0 0 rfl)
                            obtain ⟨l2, y0, y1, y2, y3, y4⟩ := pol5 HP3.out
                            go_wp2_with fail
                            (with_reducible refine (HRI.out _ (Below.refl _ _)).mono ?_)
                            rintro e t1 ⟨rfl, hb⟩
                            have HT1 := Lib.hid (hb)
                            clear hb l2 y0 y1 y2 y3 y4
                            obtain ⟨l2, y0, y1, y2, y3, y4⟩ := pol5 (HP3.out.below HT1.out HP3.out.lt)
                            go_wp2_with fail
                            (with_reducible refine (HMA.out _ HT1.out).mono ?_)
                            rintro e t2 ⟨rfl, hb⟩
                            have HT2 := Lib.hid (HT1.out.trans (hb.mono HT1.out.size))
                            clear hb l2 y0 y1 y2 y3 y4
                            obtain ⟨l2, y0, y1, y2, y3, y4⟩ := pol5 (HP3.out.below HT2.out HP3.out.lt)
                            go_wp2_with fail
                            (with_reducible refine (HSE.out _ HT2.out).mono ?_)
                            rintro e t3 ⟨rfl, hb⟩
                            have HT3 := Lib.hid (HT2.out.trans (hb.mono HT2.out.size))
                            clear hb l2 y0 y1 y2 y3 y4
                            obtain ⟨l2, y0, y1, y2, y3, y4⟩ := pol5 (HP3.out.below HT3.out HP3.out.lt)
                            go_wp2_with fail
                            (with_reducible refine (HLA.out _ HT3.out).mono ?_)
                            rintro e t4 ⟨rfl, hb⟩
                            have HT4 := Lib.hid (HT3.out.trans (hb.mono HT3.out.size))
                            clear hb l2 y0 y1 y2 y3 y4
                            have HF9 := Lib.hid (HB3.out.trans (HT4.out.mono HB3.out.size))
                            go_wp2
                            go_roundw
                            case rel => exact ⟨9, by omega, by first | rfl | go_num, HF9.out⟩
                            case measure => simp [intOf]
                        · skip
                          by_cases hk9 : k = 9
                          · subst hk9
                            as_aux_lemma =>
                              obtain ⟨l2, y0, y1, y2, y3, y4⟩ := pol5 HP2.out
                              go_wp2_with fail
                              (with_reducible refine (refOf_c 1 3 _ (by omega) (by omega) (by omega) (by omega)).mono ?_)
                              rintro e u2 ⟨vv, hd, rfl, hb⟩
                              have hd2 : vv = .agg #[.bool false, .int .u64 1, .int .u64 0, .int .i64 3] := of_small (z := 1) hd (by omega)
                              subst hd2
                              have HU2 := Lib.hid (HX2.out.trans (hb.mono HX2.out.size))
                              have HUP := Lib.hid (HP2.out.below hb HP2.out.lt)
                              have HUS := Lib.hid (HS2.out.below hb)
                              clear hb hd l2 y0 y1 y2 y3 y4
                              obtain ⟨l2, y0, y1, y2, y3, y4⟩ := pol5 HUP.out
                              have f4 := HUP.out.frozen 4
                              obtain ⟨gr, hgr⟩ : ∃ x, u2.heap.size = x := ⟨_, rfl⟩
                              obtain ⟨V3, hV3⟩ : ∃ V, (u2.setCell ⟨gz, 4, none⟩ (.slice (some ⟨gr, 0, none⟩) 1 1)).alloc (.cells #[.int .i64 3, .int .i64 0, .int .i64 0, .int .i64 (-1), .int .i64 0, .int .i64 0, .bool false, .int .u64 1, .int .u64 0, .int .i64 3, .int .u64 0, .int .i64 0] 37) = V := ⟨_, rfl⟩
                              have HB3 := Lib.hid (show Below w.heap.size w V3 from by rw [← hV3]; exact bel_alloc (HU2.out.setCell (p := ⟨gz, 4, none⟩) (by show w.heap.size ≤ gz; omega) _) _)
                              have HP3 := Lib.hid (show Blk V3 gz 28 #[.slice (some ⟨q + 1, 0, none⟩) 2 2, .slice (some ⟨q + 2, 0, none⟩) 1 1, .slice (some ⟨q + 3, 0, none⟩) 2 2, .slice (some ⟨q + 4, 0, none⟩) 1 1, .slice (some ⟨gr, 0, none⟩) 1 1] from by rw [← hV3]; have h := (HUP.out.set_ 4 (.slice (some ⟨gr, 0, none⟩) 1 1)).alloc (.cells #[.int .i64 3, .int .i64 0, .int .i64 0, .int .i64 (-1), .int .i64 0, .int .i64 0, .bool false, .int .u64 1, .int .u64 0, .int .i64 3, .int .u64 0, .int .i64 0] 37); simpa using h)
                              have HC5 := Lib.hid (show Blk V3 gr 37 #[.int .i64 3, .int .i64 0, .int .i64 0, .int .i64 (-1), .int .i64 0, .int .i64 0, .bool false, .int .u64 1, .int .u64 0, .int .i64 3, .int .u64 0, .int .i64 0] from by rw [← hV3]; exact blk_at (by simp; exact hgr))
                              have HGR2 := Lib.hid hgr
                              clear hgr
                              have HC1 := Lib.hid (show Blk V3 (q + 1) 46 #[.int .i64 1, .int .i64 0, .int .i64 (-1), .int .i64 10000, .int .i64 2, .int .i64 0, .int .i64 0, .int .i64 5000] from by rw [← hV3]; exact (HUS.out.1.far (p := ⟨gz, 4, none⟩) (by show q + 1 ≠ gz; omega) _).alloc _)
                              have HC2 := Lib.hid (show Blk V3 (q + 2) 30 #[.int .u64 3] from by rw [← hV3]; exact (HUS.out.2.1.far (p := ⟨gz, 4, none⟩) (by show q + 2 ≠ gz; omega) _).alloc _)
                              have HC3 := Lib.hid (show Blk V3 (q + 3) 48 #[.int .u64 3, .int .i64 2, .int .u64 1, .int .u64 1, .int .i64 1, .int .u64 0] from by rw [← hV3]; exact (HUS.out.2.2.1.far (p := ⟨gz, 4, none⟩) (by show q + 3 ≠ gz; omega) _).alloc _)
                              have HC4 := Lib.hid (show Blk V3 (q + 4) 3 #[.int .i64 (-1)] from by rw [← hV3]; exact (HUS.out.2.2.2.far (p := ⟨gz, 4, none⟩) (by show q + 4 ≠ gz; omega) _).alloc _)
                              rename_i hK
                              dsimp only
                              refine hK _ _ ?_
                              refine wpList_val (v := .agg #[.int .i64 3, .int .i64 0, .int .i64 0, .int .i64 (-1), .int .i64 0, .int .i64 0, .bool false, .int .u64 1, .int .u64 0, .int .i64 3, .int .u64 0, .int .i64 0]) (w' := u2) rfl (by kernel_rfl) ?_
                              simp only [Act.put, List.setIfInBounds_toArray, List.set_cons_zero, List.set_cons_succ]
                              refine wpList_val (v := .slice (some ⟨gr, 0, none⟩) 1 1) (w' := u2.alloc (.cells #[.int .i64 3, .int .i64 0, .int .i64 0, .int .i64 (-1), .int .i64 0, .int .i64 0, .bool false, .int .u64 1, .int .u64 0, .int .i64 3, .int .u64 0, .int .i64 0] 37)) rfl ?_ ?_
                              · rw [← HGR2.out]
                                exact lit_run rfl rfl
                              simp only [Act.put, List.setIfInBounds_toArray, List.set_cons_zero, List.set_cons_succ]
                              have HV3 := Lib.hid hV3
                              clear hV3
                              go_upto_region 34 with fail
                              rw [HV3.out]
                              clear HV3 l2 y0 y1 y2 y3 y4
                              have HPR := Lib.hid (fun (V : World) (hb : Below V3.heap.size V3 V) => (show PolRd V V3.heap.size ⟨some ⟨q + 1, 0, none⟩, 2, some ⟨q + 2, 0, none⟩, 1, (some ⟨q + 3, 0, none⟩), 2, some ⟨q + 4, 0, none⟩, 1, (some ⟨gr, 0, none⟩), 1⟩ (badP 9) from ⟨blk_rd (HC1.out.below hb HC1.out.lt) HC1.out.lt rfl, blk_rd (HC2.out.below hb HC2.out.lt) HC2.out.lt rfl, blk_rd (HC3.out.below hb HC3.out.lt) HC3.out.lt rfl, rd_il (blk_rd (HC4.out.below hb HC4.out.lt) HC4.out.lt rfl) rfl (Nat.le_refl _), blk_rd (HC5.out.below hb HC5.out.lt) HC5.out.lt rfl⟩).more hb.size)
                              have hwd := Lib.hid (wd_of (P := badP 9) (by decide +kernel))
                              have HRT := Lib.hid (right_dec (badP 9) false (by decide +kernel))
                              have HRI := Lib.hid (fun (V : World) (hb : Below V3.heap.size V3 V) => show Calls Try.prog 7 #[.agg #[.slice (some ⟨q + 1, 0, none⟩) 2 2, .slice (some ⟨q + 2, 0, none⟩) 1 1, .slice (some ⟨q + 3, 0, none⟩) 2 2, .slice (some ⟨q + 4, 0, none⟩) 1 1, .slice (some ⟨gr, 0, none⟩) 1 1]] V (RetB V false) from ruRight_c ⟨some ⟨q + 1, 0, none⟩, 2, some ⟨q + 2, 0, none⟩, 1, (some ⟨q + 3, 0, none⟩), 2, some ⟨q + 4, 0, none⟩, 1, (some ⟨gr, 0, none⟩), 1⟩ (badP 9) V 2 1 2 1 1 (HPR.out V hb) hwd.out rfl rfl rfl rfl rfl false HRT.out)
                              have HMA := Lib.hid (fun (V : World) (hb : Below V3.heap.size V3 V) => show Calls Try.prog 8 #[.agg #[.slice (some ⟨q + 1, 0, none⟩) 2 2, .slice (some ⟨q + 2, 0, none⟩) 1 1, .slice (some ⟨q + 3, 0, none⟩) 2 2, .slice (some ⟨q + 4, 0, none⟩) 1 1, .slice (some ⟨gr, 0, none⟩) 1 1], .int .i64 0, .int .i64 1, .int .i64 0] V (RetB V false) from ruMay_c ⟨some ⟨q + 1, 0, none⟩, 2, some ⟨q + 2, 0, none⟩, 1, (some ⟨q + 3, 0, none⟩), 2, some ⟨q + 4, 0, none⟩, 1, (some ⟨gr, 0, none⟩), 1⟩ (badP 9) V 2 1 2 1 1 (HPR.out V hb) hwd.out rfl rfl rfl rfl rfl false HRT.out 0 1 0 false rfl)
                              have HSE := Lib.hid (fun (V : World) (hb : Below V3.heap.size V3 V) => show Calls Try.prog 11 #[.agg #[.slice (some ⟨q + 1, 0, none⟩) 2 2, .slice (some ⟨q + 2, 0, none⟩) 1 1, .slice (some ⟨q + 3, 0, none⟩) 2 2, .slice (some ⟨q + 4, 0, none⟩) 1 1, .slice (some ⟨gr, 0, none⟩) 1 1], .int .i64 0, .agg #[.int .u64 0, .int .i64 0]] V (RetB V false) from ruSees_c ⟨some ⟨q + 1, 0, none⟩, 2, some ⟨q + 2, 0, none⟩, 1, (some ⟨q + 3, 0, none⟩), 2, some ⟨q + 4, 0, none⟩, 1, (some ⟨gr, 0, none⟩), 1⟩ (badP 9) V 2 1 2 1 1 (HPR.out V hb) hwd.out rfl rfl rfl rfl rfl false HRT.out 0 0 0 (by decide) false rfl)
                              have HLA := Lib.hid (fun (V : World) (hb : Below V3.heap.size V3 V) => show Calls Try.prog 9 #[.agg #[.slice (some ⟨q + 1, 0, none⟩) 2 2, .slice (some ⟨q + 2, 0, none⟩) 1 1, .slice (some ⟨q + 3, 0, none⟩) 2 2, .slice (some ⟨q + 4, 0, none⟩) 1 1, .slice (some ⟨gr, 0, none⟩) 1 1], .int .i64 0] V (RetL V 0 0) from ruLabel_c ⟨some ⟨q + 1, 0, none⟩, 2, some ⟨q + 2, 0, none⟩, 1, (some ⟨q + 3, 0, none⟩), 2, some ⟨q + 4, 0, none⟩, 1, (some ⟨gr, 0, none⟩), 1⟩ (badP 9) V 2 1 2 1 1 (HPR.out V hb) hwd.out rfl rfl rfl rfl rfl false HRT.out 0 0 0 rfl)
                              obtain ⟨l2, y0, y1, y2, y3, y4⟩ := pol5 HP3.out
                              go_wp2_with fail
                              (with_reducible refine (HRI.out _ (Below.refl _ _)).mono ?_)
                              rintro e t1 ⟨rfl, hb⟩
                              have HT1 := Lib.hid (hb)
                              clear hb l2 y0 y1 y2 y3 y4
                              obtain ⟨l2, y0, y1, y2, y3, y4⟩ := pol5 (HP3.out.below HT1.out HP3.out.lt)
                              go_wp2_with fail
                              (with_reducible refine (HMA.out _ HT1.out).mono ?_)
                              rintro e t2 ⟨rfl, hb⟩
                              have HT2 := Lib.hid (HT1.out.trans (hb.mono HT1.out.size))
                              clear hb l2 y0 y1 y2 y3 y4
                              obtain ⟨l2, y0, y1, y2, y3, y4⟩ := pol5 (HP3.out.below HT2.out HP3.out.lt)
                              go_wp2_with fail
                              (with_reducible refine (HSE.out _ HT2.out).mono ?_)
                              rintro e t3 ⟨rfl, hb⟩
                              have HT3 := Lib.hid (HT2.out.trans (hb.mono HT2.out.size))
                              clear hb l2 y0 y1 y2 y3 y4
                              obtain ⟨l2, y0, y1, y2, y3, y4⟩ := pol5 (HP3.out.below HT3.out HP3.out.lt)
                              go_wp2_with fail
                              (with_reducible refine (HLA.out _ HT3.out).mono ?_)
                              rintro e t4 ⟨rfl, hb⟩
                              have HT4 := Lib.hid (HT3.out.trans (hb.mono HT3.out.size))
                              clear hb l2 y0 y1 y2 y3 y4
                              have HF9 := Lib.hid (HB3.out.trans (HT4.out.mono HB3.out.size))
                              go_wp2
                              go_roundw
                              case rel => exact ⟨10, by omega, by first | rfl | go_num, HF9.out⟩
                              case measure => simp [intOf]
                          · skip
                            by_cases hk10 : k = 10
                            · subst hk10
                              as_aux_lemma =>
                                obtain ⟨l2, y0, y1, y2, y3, y4⟩ := pol5 HP2.out
                                have f4 := HP2.out.frozen 4
                                obtain ⟨gr, hgr⟩ : ∃ x, V2.heap.size = x := ⟨_, rfl⟩
                                obtain ⟨V3, hV3⟩ : ∃ V, (V2.setCell ⟨gz, 4, none⟩ (.slice (some ⟨gr, 0, none⟩) 1 1)).alloc (.cells #[.int .i64 1, .int .i64 0, .int .i64 1, .int .i64 2, .int .i64 0, .int .i64 0, .bool false, .int .u64 0, .int .u64 0, .int .i64 0, .int .u64 0, .int .i64 0] 37) = V := ⟨_, rfl⟩
                                have HB3 := Lib.hid (show Below w.heap.size w V3 from by rw [← hV3]; exact bel_alloc (HX2.out.setCell (p := ⟨gz, 4, none⟩) (by show w.heap.size ≤ gz; omega) _) _)
                                have HP3 := Lib.hid (show Blk V3 gz 28 #[.slice (some ⟨q + 1, 0, none⟩) 2 2, .slice (some ⟨q + 2, 0, none⟩) 1 1, .slice (some ⟨q + 3, 0, none⟩) 2 2, .slice (some ⟨q + 4, 0, none⟩) 1 1, .slice (some ⟨gr, 0, none⟩) 1 1] from by rw [← hV3]; have h := (HP2.out.set_ 4 (.slice (some ⟨gr, 0, none⟩) 1 1)).alloc (.cells #[.int .i64 1, .int .i64 0, .int .i64 1, .int .i64 2, .int .i64 0, .int .i64 0, .bool false, .int .u64 0, .int .u64 0, .int .i64 0, .int .u64 0, .int .i64 0] 37); simpa using h)
                                have HC5 := Lib.hid (show Blk V3 gr 37 #[.int .i64 1, .int .i64 0, .int .i64 1, .int .i64 2, .int .i64 0, .int .i64 0, .bool false, .int .u64 0, .int .u64 0, .int .i64 0, .int .u64 0, .int .i64 0] from by rw [← hV3]; exact blk_at (by simp; exact hgr))
                                have HGR2 := Lib.hid hgr
                                clear hgr
                                have HC1 := Lib.hid (show Blk V3 (q + 1) 46 #[.int .i64 1, .int .i64 0, .int .i64 (-1), .int .i64 10000, .int .i64 2, .int .i64 0, .int .i64 0, .int .i64 5000] from by rw [← hV3]; exact (HS2.out.1.far (p := ⟨gz, 4, none⟩) (by show q + 1 ≠ gz; omega) _).alloc _)
                                have HC2 := Lib.hid (show Blk V3 (q + 2) 30 #[.int .u64 3] from by rw [← hV3]; exact (HS2.out.2.1.far (p := ⟨gz, 4, none⟩) (by show q + 2 ≠ gz; omega) _).alloc _)
                                have HC3 := Lib.hid (show Blk V3 (q + 3) 48 #[.int .u64 3, .int .i64 2, .int .u64 1, .int .u64 1, .int .i64 1, .int .u64 0] from by rw [← hV3]; exact (HS2.out.2.2.1.far (p := ⟨gz, 4, none⟩) (by show q + 3 ≠ gz; omega) _).alloc _)
                                have HC4 := Lib.hid (show Blk V3 (q + 4) 3 #[.int .i64 (-1)] from by rw [← hV3]; exact (HS2.out.2.2.2.far (p := ⟨gz, 4, none⟩) (by show q + 4 ≠ gz; omega) _).alloc _)
                                go_upto_region 33 with fail
                                refine wp_region_lit ?_
                                refine wpList_val (v := .agg #[.int .i64 1, .int .i64 0, .int .i64 1, .int .i64 2, .int .i64 0, .int .i64 0, .bool false, .int .u64 0, .int .u64 0, .int .i64 0, .int .u64 0, .int .i64 0]) (w' := V2) rfl (by kernel_rfl) ?_
                                simp only [Act.put, List.setIfInBounds_toArray, List.set_cons_zero, List.set_cons_succ]
                                refine wpList_val (v := .slice (some ⟨gr, 0, none⟩) 1 1) (w' := V2.alloc (.cells #[.int .i64 1, .int .i64 0, .int .i64 1, .int .i64 2, .int .i64 0, .int .i64 0, .bool false, .int .u64 0, .int .u64 0, .int .i64 0, .int .u64 0, .int .i64 0] 37)) rfl ?_ ?_
                                · rw [← HGR2.out]
                                  exact lit_run rfl rfl
                                simp only [Act.put, List.setIfInBounds_toArray, List.set_cons_zero, List.set_cons_succ]
                                have HV3 := Lib.hid hV3
                                clear hV3
                                go_upto_region 34 with fail
                                rw [HV3.out]
                                clear HV3 l2 y0 y1 y2 y3 y4
                                have HPR := Lib.hid (fun (V : World) (hb : Below V3.heap.size V3 V) => (show PolRd V V3.heap.size ⟨some ⟨q + 1, 0, none⟩, 2, some ⟨q + 2, 0, none⟩, 1, (some ⟨q + 3, 0, none⟩), 2, some ⟨q + 4, 0, none⟩, 1, (some ⟨gr, 0, none⟩), 1⟩ (badP 10) from ⟨blk_rd (HC1.out.below hb HC1.out.lt) HC1.out.lt rfl, blk_rd (HC2.out.below hb HC2.out.lt) HC2.out.lt rfl, blk_rd (HC3.out.below hb HC3.out.lt) HC3.out.lt rfl, rd_il (blk_rd (HC4.out.below hb HC4.out.lt) HC4.out.lt rfl) rfl (Nat.le_refl _), blk_rd (HC5.out.below hb HC5.out.lt) HC5.out.lt rfl⟩).more hb.size)
                                have hwd := Lib.hid (wd_of (P := badP 10) (by decide +kernel))
                                have HRT := Lib.hid (right_dec (badP 10) false (by decide +kernel))
                                have HRI := Lib.hid (fun (V : World) (hb : Below V3.heap.size V3 V) => show Calls Try.prog 7 #[.agg #[.slice (some ⟨q + 1, 0, none⟩) 2 2, .slice (some ⟨q + 2, 0, none⟩) 1 1, .slice (some ⟨q + 3, 0, none⟩) 2 2, .slice (some ⟨q + 4, 0, none⟩) 1 1, .slice (some ⟨gr, 0, none⟩) 1 1]] V (RetB V false) from ruRight_c ⟨some ⟨q + 1, 0, none⟩, 2, some ⟨q + 2, 0, none⟩, 1, (some ⟨q + 3, 0, none⟩), 2, some ⟨q + 4, 0, none⟩, 1, (some ⟨gr, 0, none⟩), 1⟩ (badP 10) V 2 1 2 1 1 (HPR.out V hb) hwd.out rfl rfl rfl rfl rfl false HRT.out)
                                have HMA := Lib.hid (fun (V : World) (hb : Below V3.heap.size V3 V) => show Calls Try.prog 8 #[.agg #[.slice (some ⟨q + 1, 0, none⟩) 2 2, .slice (some ⟨q + 2, 0, none⟩) 1 1, .slice (some ⟨q + 3, 0, none⟩) 2 2, .slice (some ⟨q + 4, 0, none⟩) 1 1, .slice (some ⟨gr, 0, none⟩) 1 1], .int .i64 0, .int .i64 1, .int .i64 0] V (RetB V false) from ruMay_c ⟨some ⟨q + 1, 0, none⟩, 2, some ⟨q + 2, 0, none⟩, 1, (some ⟨q + 3, 0, none⟩), 2, some ⟨q + 4, 0, none⟩, 1, (some ⟨gr, 0, none⟩), 1⟩ (badP 10) V 2 1 2 1 1 (HPR.out V hb) hwd.out rfl rfl rfl rfl rfl false HRT.out 0 1 0 false rfl)
                                have HSE := Lib.hid (fun (V : World) (hb : Below V3.heap.size V3 V) => show Calls Try.prog 11 #[.agg #[.slice (some ⟨q + 1, 0, none⟩) 2 2, .slice (some ⟨q + 2, 0, none⟩) 1 1, .slice (some ⟨q + 3, 0, none⟩) 2 2, .slice (some ⟨q + 4, 0, none⟩) 1 1, .slice (some ⟨gr, 0, none⟩) 1 1], .int .i64 0, .agg #[.int .u64 0, .int .i64 0]] V (RetB V false) from ruSees_c ⟨some ⟨q + 1, 0, none⟩, 2, some ⟨q + 2, 0, none⟩, 1, (some ⟨q + 3, 0, none⟩), 2, some ⟨q + 4, 0, none⟩, 1, (some ⟨gr, 0, none⟩), 1⟩ (badP 10) V 2 1 2 1 1 (HPR.out V hb) hwd.out rfl rfl rfl rfl rfl false HRT.out 0 0 0 (by decide) false rfl)
                                have HLA := Lib.hid (fun (V : World) (hb : Below V3.heap.size V3 V) => show Calls Try.prog 9 #[.agg #[.slice (some ⟨q + 1, 0, none⟩) 2 2, .slice (some ⟨q + 2, 0, none⟩) 1 1, .slice (some ⟨q + 3, 0, none⟩) 2 2, .slice (some ⟨q + 4, 0, none⟩) 1 1, .slice (some ⟨gr, 0, none⟩) 1 1], .int .i64 0] V (RetL V 0 0) from ruLabel_c ⟨some ⟨q + 1, 0, none⟩, 2, some ⟨q + 2, 0, none⟩, 1, (some ⟨q + 3, 0, none⟩), 2, some ⟨q + 4, 0, none⟩, 1, (some ⟨gr, 0, none⟩), 1⟩ (badP 10) V 2 1 2 1 1 (HPR.out V hb) hwd.out rfl rfl rfl rfl rfl false HRT.out 0 0 0 rfl)
                                obtain ⟨l2, y0, y1, y2, y3, y4⟩ := pol5 HP3.out
                                go_wp2_with fail
                                (with_reducible refine (HRI.out _ (Below.refl _ _)).mono ?_)
                                rintro e t1 ⟨rfl, hb⟩
                                have HT1 := Lib.hid (hb)
                                clear hb l2 y0 y1 y2 y3 y4
                                obtain ⟨l2, y0, y1, y2, y3, y4⟩ := pol5 (HP3.out.below HT1.out HP3.out.lt)
                                go_wp2_with fail
                                (with_reducible refine (HMA.out _ HT1.out).mono ?_)
                                rintro e t2 ⟨rfl, hb⟩
                                have HT2 := Lib.hid (HT1.out.trans (hb.mono HT1.out.size))
                                clear hb l2 y0 y1 y2 y3 y4
                                obtain ⟨l2, y0, y1, y2, y3, y4⟩ := pol5 (HP3.out.below HT2.out HP3.out.lt)
                                go_wp2_with fail
                                (with_reducible refine (HSE.out _ HT2.out).mono ?_)
                                rintro e t3 ⟨rfl, hb⟩
                                have HT3 := Lib.hid (HT2.out.trans (hb.mono HT2.out.size))
                                clear hb l2 y0 y1 y2 y3 y4
                                obtain ⟨l2, y0, y1, y2, y3, y4⟩ := pol5 (HP3.out.below HT3.out HP3.out.lt)
                                go_wp2_with fail
                                (with_reducible refine (HLA.out _ HT3.out).mono ?_)
                                rintro e t4 ⟨rfl, hb⟩
                                have HT4 := Lib.hid (HT3.out.trans (hb.mono HT3.out.size))
                                clear hb l2 y0 y1 y2 y3 y4
                                have HF9 := Lib.hid (HB3.out.trans (HT4.out.mono HB3.out.size))
                                go_wp2
                                go_roundw
                                case rel => exact ⟨11, by omega, by first | rfl | go_num, HF9.out⟩
                                case measure => simp [intOf]
                            · skip
                              exfalso
                              omega
      · obtain rfl : k = 11 := by omega
        go_wp2
        go_ret
        exact ⟨rfl, HBr.out⟩
end Go.Proofs.Ythjdflhjlaedgaa

/- A group's label: pyxref4.GroupLabel, rule.Group. -/
import Derived.Test.YtakofbkbbmpfeaaRulE
import Derived.Test.YtakofbkbbmpfeaaOrdZ
namespace Go.Proofs.Ytakofbkbbmpfeaa
open Go.RowKit
/-- The Join of the labels of the group's entities below j. -/
def grpGo (β : Bool) (P : PolP) (g : Nat) : Nat → Nat × Int
  | 0 => (0, 0)
  | j + 1 => if g.testBit j = true then ((grpGo β P g j).1 ||| (entLab β P (j : Int)).1, max (grpGo β P g j).2 (entLab β P (j : Int)).2) else grpGo β P g j
def grpLab (β : Bool) (P : PolP) (k : Int) : Nat × Int := if β = true ∧ 0 ≤ k ∧ k < (P.grp.length : Int) then grpGo β P ((P.grp[k.toNat]?).getD 0) P.ents.length else (0, 0)
theorem entLab_lt (β : Bool) (P : PolP) (k : Int) : (entLab β P k).1 < 256 := by
  unfold entLab
  split
  · exact ofSet_lt k
  · show 0 < 256
    decide
theorem grpGo_lt (β : Bool) (P : PolP) (g : Nat) : ∀ j, (grpGo β P g j).1 < 256
  | 0 => by show 0 < 256; decide
  | j + 1 => by
    have h1 := grpGo_lt β P g j
    have h2 := entLab_lt β P (j : Int)
    unfold grpGo
    split
    · exact Nat.or_lt_two_pow (n := 8) h1 h2
    · exact h1
def GrpRel (W : World) (gp : Nat) (β : Bool) (P : PolP) (g n : Nat) (i : Value) (wr : World) : Prop :=
  ∃ j : Nat, j ≤ n ∧ i = .int .i64 j ∧ Blk wr gp 33 #[.int .u64 ((grpGo β P g j).1 : Int), .int .i64 (grpGo β P g j).2] ∧ Below gp W wr
/-- The Join of the labels of these entities. -/
def joinL (β : Bool) (P : PolP) (L : List Nat) : Nat × Int := L.foldl (fun (a : Nat × Int) (e : Nat) => (a.1 ||| (entLab β P (e : Int)).1, max a.2 (entLab β P (e : Int)).2)) (0, 0)
theorem joinL_snoc (β : Bool) (P : PolP) (L : List Nat) (e : Nat) : joinL β P (L ++ [e]) = ((joinL β P L).1 ||| (entLab β P (e : Int)).1, max (joinL β P L).2 (entLab β P (e : Int)).2) := by
  unfold joinL
  rw [List.foldl_append]
  rfl
theorem joinL_grp (β : Bool) (P : PolP) (g : Nat) : ∀ j, joinL β P (memK g j) = grpGo β P g j
  | 0 => rfl
  | j + 1 => by
    cases h : g.testBit j
    · rw [memK_no h, joinL_grp β P g j]
      unfold grpGo
      rw [h]
      cases j <;> rfl
    · rw [memK_yes h, joinL_snoc, joinL_grp β P g j]
      rw [grpGo, if_pos h]
theorem joinL_lt (β : Bool) (P : PolP) : ∀ L : List Nat, (joinL β P L).1 < 256 := by
  intro L
  have h : ∀ (L : List Nat) (a : Nat × Int), a.1 < 256 → (L.foldl (fun (a : Nat × Int) (e : Nat) => (a.1 ||| (entLab β P (e : Int)).1, max a.2 (entLab β P (e : Int)).2)) a).1 < 256 := by
    intro L
    induction L with
    | nil => intro a h; exact h
    | cons e L ih => intro a h; exact ih _ (Nat.or_lt_two_pow (n := 8) h (entLab_lt β P (e : Int)))
  exact h L (0, 0) (by decide)
theorem memK_top {g n : Nat} (h : g < 2 ^ n) : ∀ d, memK g (n + d) = memK g n
  | 0 => rfl
  | d + 1 => by
    have hb : g.testBit (n + d) = false := Nat.testBit_lt_two_pow (Nat.lt_of_lt_of_le h (Nat.pow_le_pow_right (by decide) (by omega)))
    rw [← Nat.add_assoc, memK_no hb, memK_top h d]
/-- The members' labels joined are the group's label. -/
theorem joinL_all {β : Bool} {P : PolP} {g n : Nat} (h : g < 2 ^ n) (hn : n ≤ 8) : joinL β P (memL g) = grpGo β P g n := by
  have e := memK_top h (8 - n)
  rw [show n + (8 - n) = 8 by omega] at e
  unfold memL
  rw [e, joinL_grp]
theorem NsA.set_ {w : World} {A : Option Addr} {L : List Nat} {g k : Nat} {T : TypeId} {cs : Array Value} (h : NsA w A L) (b : Blk w g T cs) (hT : 3 ≠ T) (v : Value) : NsA (w.setCell ⟨g, k, none⟩ v) A L := fun j hj => by
  obtain ⟨g', cur, hA, hh, hc⟩ := h j hj
  have hne : g' ≠ g := by
    rintro rfl
    unfold Blk at b
    rw [hh] at b
    injection b with b
    injection b with _ b
    exact hT b
  refine ⟨g', cur, hA, (Below.heap_setCell w ⟨g, k, none⟩ v g' hne).trans hh, ?_⟩
  have hx := hc
  unfold World.cell? at hx ⊢
  simp only [Below.heap_setCell w ⟨g, k, none⟩ v g' hne] at hx ⊢
  exact hx
set_option maxRecDepth 100000 in
set_option maxHeartbeats 3200000 in
theorem groupLabel_c (s : Slp) (P : PolP) (w : World) (ne ng nh nu nr : Nat) (h : PolRd w w.heap.size s P) (hwd : PolWd P) (hne : P.ents.length = ne) (hng : P.grp.length = ng) (hnh : P.who.length = nh) (hnu : P.up.length = nu) (hnr : P.rules.length = nr) (β : Bool) (hβ : β = true ↔ RightPol P) (k : Int) (n : Nat) (v : Int) (hv : grpLab β P k = (n, v)) :
    Calls Try.prog 15 #[.agg #[.slice s.Ae ne s.ce, .slice s.Ag ng s.cg, .slice s.Ah nh s.ch, .slice s.Au nu s.cu, .slice s.Ar nr s.cr], .int .i64 k] w (RetL w n v) := by
  obtain ⟨gp, hgp⟩ : ∃ g, w.heap.size = g := ⟨_, rfl⟩
  obtain ⟨W0, hW0⟩ : ∃ V, (w.alloc (.cells #[.slice s.Ae ne s.ce, .slice s.Ag ng s.cg, .slice s.Ah nh s.ch, .slice s.Au nu s.cu, .slice s.Ar nr s.cr] 28)).alloc (.cells #[.int .u64 0, .int .i64 0] 33) = V := ⟨_, rfl⟩
  obtain ⟨W, hW⟩ : ∃ V, W0.alloc (.cells #[.int .u64 0, .int .i64 0] 33) = V := ⟨_, rfl⟩
  have hs0 : W0.heap.size = gp + 2 := by rw [← hW0, ← hgp]; simp
  have hB0 : Below w.heap.size w W0 := by rw [← hW0]; exact bel_alloc (bel_alloc (Below.refl _ _) _) _
  have HBW := Lib.hid (show Below w.heap.size w W from by rw [← hW]; exact bel_alloc hB0 _)
  have HPB := Lib.hid (show PolBl W gp s ne ng nh nu nr from by rw [← hW, ← hW0, ← hgp]; exact ((Blk.new _ _ _).alloc _).alloc _)
  have HLB := Lib.hid (show Blk W (gp + 1) 33 #[.int .u64 0, .int .i64 0] from by
    rw [← hW, ← hW0, ← hgp]
    have h := (Blk.new (w.alloc (.cells #[.slice s.Ae ne s.ce, .slice s.Ag ng s.cg, .slice s.Ah nh s.ch, .slice s.Au nu s.cu, .slice s.Ar nr s.cr] 28)) 33 #[.int .u64 0, .int .i64 0]).alloc (.cells #[.int .u64 0, .int .i64 0] 33)
    simpa using h)
  have HCB := Lib.hid (show Blk W (gp + 2) 33 #[.int .u64 0, .int .i64 0] from by
    rw [← hW, ← hs0]
    exact Blk.new _ _ _)
  have HRD := Lib.hid (h.below HBW.out)
  have HRP := Lib.hid (rightPol_c s P W ne ng nh nu nr ((h.below HBW.out).more HBW.out.size) hwd hne hng hnh hnu hnr β hβ)
  have HEL := Lib.hid (fun (V : World) (hb : Below w.heap.size w V) (j : Nat) (n : Nat) (v : Int) (e : entLab β P (j : Int) = (n, v)) => entLabel_c s P V ne ng nh nu nr ((h.below hb).more hb.size) hwd hne hng hnh hnu hnr β hβ (j : Int) n v e)
  have HV := Lib.hid hv
  have HWG := Lib.hid hwd.1
  have hle := hwd.2.2.2.1
  have hlg := hwd.2.2.2.2.1
  rw [hne] at hle
  rw [hng] at hlg
  have HNE := Lib.hid hne
  have HNG := Lib.hid hng
  have HBT := Lib.hid hβ
  have HW0 := Lib.hid hW0
  have HW := Lib.hid hW
  have HGP := Lib.hid hgp
  obtain ⟨lp, x0, x1, x2, x3, x4⟩ := HPB.out.cells
  clear h hwd hng hnh hnu hnr hβ hv hne hW hgp hW0 hs0 hB0
  go_enter Try.func15, Try.ntmps15
  go_wp2_with fail
  rw [HW0.out, HW.out, HGP.out]
  obtain ⟨gc, hgc⟩ : ∃ g, gp + 2 = g := ⟨_, rfl⟩
  rw [hgc]
  rw [hgc] at HCB
  have HGC := Lib.hid hgc
  clear hgc lp x0 x1 x2 x3 x4 HW0 HW
  (with_reducible refine HRP.out.mono ?_)
  rintro e w1 ⟨rfl, hb⟩
  have HB1 := Lib.hid (HBW.out.trans (hb.mono HBW.out.size))
  have HP1 := Lib.hid (show PolBl w1 gp s ne ng nh nu nr from Blk.below HPB.out hb (Blk.lt HPB.out))
  have HL1 := Lib.hid (HLB.out.below hb HLB.out.lt)
  have HC1 := Lib.hid (HCB.out.below hb HCB.out.lt)
  have HR1 := Lib.hid (HRD.out.below (hb.mono HBW.out.size))
  clear hb HPB HLB HRD HRP HCB
  obtain ⟨lp, x0, x1, x2, x3, x4⟩ := HP1.out.cells
  have y0 : w1.cell? ⟨gp + 1, 0, none⟩ = some (.int .u64 0) := (HL1.out.cell 0).trans rfl
  have y1 : w1.cell? ⟨gp + 1, 1, none⟩ = some (.int .i64 0) := (HL1.out.cell 1).trans rfl
  have yl := HL1.out.lt
  have f0 := HL1.out.frozen 0
  have f1 := HL1.out.frozen 1
  have c0 : w1.cell? ⟨gc, 0, none⟩ = some (.int .u64 0) := (HC1.out.cell 0).trans rfl
  have c1 : w1.cell? ⟨gc, 1, none⟩ = some (.int .i64 0) := (HC1.out.cell 1).trans rfl
  have cl := HC1.out.lt
  have hgw : w.heap.size ≤ gp + 1 := by have := HGP.out; omega
  cases β
  · skip
    obtain ⟨rfl, rfl⟩ : n = 0 ∧ v = 0 := by
      have h := HV.out
      unfold grpLab at h
      rw [if_neg (by rw [HNG.out]; rintro ⟨h1, h2, h3⟩; first | omega | cases h1)] at h
      injection h with h1 h2
      exact ⟨h1.symm, h2.symm⟩
    go_wp2
    obtain ⟨W5, hW5⟩ : ∃ V, (w1.setCell ⟨gp + 1, 0, none⟩ (.int .u64 0)).setCell ⟨gp + 1, 1, none⟩ (.int .i64 0) = V := ⟨_, rfl⟩
    have hQ5 : Blk W5 (gp + 1) 33 #[.int .u64 0, .int .i64 0] := by rw [← hW5]; have h := (HL1.out.set_ 0 (.int .u64 0)).set_ 1 (.int .i64 0); simpa using h
    have hB5 : Below w.heap.size w W5 := by rw [← hW5]; exact (HB1.out.setCell (p := ⟨gp + 1, 0, none⟩) hgw _).setCell (p := ⟨gp + 1, 1, none⟩) hgw _
    rw [hW5]
    have q0 : W5.cell? ⟨gp + 1, 0, none⟩ = some (.int .u64 0) := (hQ5.cell 0).trans rfl
    have q1 : W5.cell? ⟨gp + 1, 1, none⟩ = some (.int .i64 0) := (hQ5.cell 1).trans rfl
    exact bodyPost_ret (v := .agg #[.int .u64 0, .int .i64 0]) (by simp [results, Try.results15, go_sem, q0, q1]) rfl ⟨rfl, hB5⟩
  · by_cases k1 : 0 ≤ k
    · by_cases k2 : k < (ng : Int)
      · obtain ⟨i, rfl⟩ : ∃ i : Nat, k = (i : Int) := ⟨k.toNat, by omega⟩
        obtain ⟨G, hG⟩ := get_at (l := P.grp) (k := i) (by rw [HNG.out]; omega)
        have hQ : grpGo true P G ne = (n, v) := by
          have h := HV.out
          unfold grpLab at h
          rw [if_pos ⟨rfl, k1, by rw [HNG.out]; exact k2⟩, Int.toNat_natCast, hG, HNE.out] at h
          exact h
        have HQ := Lib.hid hQ
        have HGG := Lib.hid hG
        have hGw := HWG.out _ (List.mem_of_getElem? hG)
        clear hQ hG HV
        have hi0 : ¬ ((i : Int) < 0) := by omega
        have hi1 : decide (ng ≤ i) = false := decide_eq_false (by omega)
        go_wp2
        clear lp x0 x1 x2 x3 x4 y0 y1 yl f0 f1 c0 c1 cl
        have he8 := (HBT.out.1 (by first | rfl | trivial)).1.1.2
        rw [HNE.out] at he8
        go_loopw [6] (fun i wr => GrpRel w1 gc true P G ne i wr) (fun i _ => ne - (intOf i).toNat)
        case atStart => exact ⟨0, by omega, rfl, HC1.out, Below.refl _ _⟩
        case round =>
          obtain ⟨j, hj, rfl, hC, hb⟩ := hrel
          have HCr := Lib.hid hC
          have hgc1 : gc ≤ w1.heap.size := by have := HC1.out.lt; omega
          have HPr := Lib.hid (show PolBl wr gp s ne ng nh nu nr from Blk.below HP1.out hb (by have := HGC.out; omega))
          have HLr := Lib.hid (HL1.out.below hb (by have := HGC.out; omega))
          have HRr := Lib.hid (HR1.out.below (hb.mono (by have := HGC.out; have := HGP.out; omega)))
          have HBr := Lib.hid (HB1.out.trans (hb.mono (by have := HGC.out; have := HGP.out; omega)))
          have HBB := Lib.hid hb
          clear hC hb
          obtain ⟨lp, x0, x1, x2, x3, x4⟩ := HPr.out.cells
          obtain ⟨a, ha⟩ : ∃ a, (grpGo true P G j).1 = a := ⟨_, rfl⟩
          obtain ⟨u, hu⟩ : ∃ u, (grpGo true P G j).2 = u := ⟨_, rfl⟩
          have hal := grpGo_lt true P G j
          rw [ha] at hal
          rw [ha, hu] at HCr
          have HA := Lib.hid ha
          have HU := Lib.hid hu
          clear ha hu
          have y0 : wr.cell? ⟨gp + 1, 0, none⟩ = some (.int .u64 0) := (HLr.out.cell 0).trans rfl
          have y1 : wr.cell? ⟨gp + 1, 1, none⟩ = some (.int .i64 0) := (HLr.out.cell 1).trans rfl
          have yl := HLr.out.lt
          have f0 := HLr.out.frozen 0
          have f1 := HLr.out.frozen 1
          have c0 : wr.cell? ⟨gc, 0, none⟩ = some (.int .u64 (a : Int)) := (HCr.out.cell 0).trans rfl
          have c1 : wr.cell? ⟨gc, 1, none⟩ = some (.int .i64 u) := (HCr.out.cell 1).trans rfl
          have cl := HCr.out.lt
          by_cases hlt : j < ne
          · have hlt' : (j : Int) < (ne : Int) := by omega
            obtain ⟨g, o, hA, hg, hc0⟩ := rd_u HRr.out.2.1 (by rw [HNG.out]; omega) HGG.out
            have HAg := Lib.hid hA
            obtain ⟨b, hbit⟩ : ∃ b, G.testBit j = b := ⟨_, rfl⟩
            have HHS := Lib.hid (fun V : World => by have h := has_c G j (G : Int) (j : Int) V rfl rfl (by omega); rw [hbit] at h; exact h)
            have HBI := Lib.hid hbit
            have hgW : g < wr.heap.size := by have := HBr.out.size; omega
            rw [hA] at x1
            clear hA hbit
            go_wp2_with fail
            (with_reducible refine (HHS.out _).mono ?_)
            rintro e w2 ⟨rfl, rfl⟩
            cases b
            · go_wp2
              go_roundw
              case rel => exact ⟨j + 1, by omega, by go_num, by rw [grpGo, if_neg (by rw [HBI.out]; simp), HA.out, HU.out]; exact HCr.out, HBB.out⟩
              case measure => simp [intOf]; omega
            · obtain ⟨m, q, hmq⟩ : ∃ m q, entLab true P (j : Int) = (m, q) := ⟨_, _, rfl⟩
              have hml := entLab_lt true P (j : Int)
              rw [hmq] at hml
              dsimp only at hml
              have HELm := Lib.hid (fun (V : World) (hb : Below w.heap.size w V) => HEL.out V hb j m q hmq)
              have HMQ := Lib.hid hmq
              obtain ⟨t, ht⟩ : ∃ t, max u q = t := ⟨_, rfl⟩
              have HJ := Lib.hid (fun V : World => by have h := rjoin_c a m (a : Int) (m : Int) u q V rfl rfl (by omega) (by omega); rw [ht] at h; exact h)
              have HT := Lib.hid ht
              clear hmq ht
              go_wp2_with fail
              clear lp x0 x1 x2 x3 x4 y0 y1 yl f0 f1 c0 c1 cl hc0
              refine wp_region_ordz (S := fun V => Below wr.heap.size wr V) (z := 5) (by kernel_rfl) ?_
              refine ordz_take (v := ?_) (i := 0) (fuel := 5) (by simp; rfl) (by kernel_rfl) (by kernel_rfl) (by kernel_rfl) (by kernel_rfl) (Or.inl ⟨by rfl, fun w' hSw => ?_⟩) (Below.refl wr.heap.size wr).drew ?_
              rotate_left
              · have z0 : w'.cell? ⟨gc, 0, none⟩ = some (.int .u64 (a : Int)) := ((HCr.out.below hSw HCr.out.lt).cell 0).trans rfl
                have z1 : w'.cell? ⟨gc, 1, none⟩ = some (.int .i64 u) := ((HCr.out.below hSw HCr.out.lt).cell 1).trans rfl
                have zl := (HCr.out.below hSw HCr.out.lt).lt
                go_simp
                all_goals with_reducible rfl
              simp only [Act.put, List.setIfInBounds_toArray, List.set_cons_zero, List.set_cons_succ]
              refine ordz_take (v := ?_) (i := 1) (fuel := 4) (by simp; rfl) (by kernel_rfl) (by kernel_rfl) (by kernel_rfl) (by kernel_rfl) (Or.inl ⟨by rfl, fun w' hSw => ?_⟩) (Below.refl wr.heap.size wr).drew ?_
              rotate_left
              · obtain ⟨lp, x0, x1, x2, x3, x4⟩ := PolBl.cells (Blk.below HPr.out hSw (Blk.lt HPr.out))
                go_simp
                all_goals with_reducible rfl
              simp only [Act.put, List.setIfInBounds_toArray, List.set_cons_zero, List.set_cons_succ]
              refine ordz_take (v := ?_) (i := 2) (fuel := 3) (by simp; rfl) (by kernel_rfl) (by kernel_rfl) (by kernel_rfl) (by kernel_rfl) (Or.inl ⟨by rfl, fun w' hSw => ?_⟩) (Below.refl wr.heap.size wr).drew ?_
              rotate_left
              · go_simp
                all_goals with_reducible rfl
              simp only [Act.put, List.setIfInBounds_toArray, List.set_cons_zero, List.set_cons_succ]
              refine ordz_call (f := 13) (args := #[.agg #[.slice s.Ae ne s.ce, .slice s.Ag ng s.cg, .slice s.Ah nh s.ch, .slice s.Au nu s.cu, .slice s.Ar nr s.cr], .int .i64 (j : Int)]) (w1 := wr.drew) (i := 3) (fuel := 2) (by simp; rfl) (by kernel_rfl) (by rfl) ?_ ?_
              · go_simp
                all_goals with_reducible rfl
              (with_reducible refine (HELm.out _ HBr.out.drew).mono ?_)
              rintro e w5 ⟨rfl, hb⟩
              have HS5 := Lib.hid (show Below wr.heap.size wr w5 from (Below.refl wr.heap.size wr).drew.trans (hb.mono (Nat.le_refl _)))
              clear hb
              refine ⟨_, rfl, .inr HS5.out, ?_⟩
              simp only [Act.put, List.setIfInBounds_toArray, List.set_cons_zero, List.set_cons_succ]
              refine ordz_call (f := 39) (args := #[.agg #[.int .u64 (a : Int), .int .i64 u], .agg #[.int .u64 (m : Int), .int .i64 q]]) (w1 := w5) (i := 4) (fuel := 1) (by simp; rfl) (by kernel_rfl) (by rfl) ?_ ?_
              · go_simp
                all_goals with_reducible rfl
              (with_reducible refine (HJ.out _).mono ?_)
              rintro e w6 ⟨rfl, hb⟩
              have HS6 := Lib.hid (HS5.out.trans (hb.mono HS5.out.size))
              clear hb
              refine ⟨_, rfl, .inr HS6.out, ?_⟩
              simp only [Act.put, List.setIfInBounds_toArray, List.set_cons_zero, List.set_cons_succ]
              have HC6 := Lib.hid (HCr.out.below HS6.out HCr.out.lt)
              have c0 : w6.cell? ⟨gc, 0, none⟩ = some (.int .u64 (a : Int)) := (HC6.out.cell 0).trans rfl
              have c1 : w6.cell? ⟨gc, 1, none⟩ = some (.int .i64 u) := (HC6.out.cell 1).trans rfl
              have cl := HC6.out.lt
              have g0 := HC6.out.frozen 0
              have g1 := HC6.out.frozen 1
              obtain ⟨am, ham⟩ : ∃ am, a ||| m = am := ⟨_, rfl⟩
              rw [ham]
              have HAM := Lib.hid ham
              clear ham
              refine ordz_skip (w' := (w6.setCell ⟨gc, 0, none⟩ (.int .u64 (am : Int))).setCell ⟨gc, 1, none⟩ (.int .i64 t)) (i := 5) (fuel := 0) (by simp; rfl) (by kernel_rfl) (by rfl) (by rfl) ?_ (.inl rfl) ?_
              · go_simp
                all_goals with_reducible rfl
              refine ordz_done (by kernel_rfl) ?_ _
              obtain ⟨W7, hW7⟩ : ∃ V, (w6.setCell ⟨gc, 0, none⟩ (.int .u64 (am : Int))).setCell ⟨gc, 1, none⟩ (.int .i64 t) = V := ⟨_, rfl⟩
              have HC7 := Lib.hid (show Blk W7 gc 33 #[.int .u64 (am : Int), .int .i64 t] from by rw [← hW7]; have h := (HC6.out.set_ 0 (.int .u64 (am : Int))).set_ 1 (.int .i64 t); simpa using h)
              have HB7 := Lib.hid (show Below gc w1 W7 from by rw [← hW7]; exact ((HBB.out.trans (HS6.out.mono (Nat.le_of_lt HCr.out.lt))).setCell (p := ⟨gc, 0, none⟩) (Nat.le_refl _) _).setCell (p := ⟨gc, 1, none⟩) (Nat.le_refl _) _)
              rw [hW7]
              clear hW7 c0 c1 cl g0 g1
              go_wp2
              go_roundw
              case rel => exact ⟨j + 1, by omega, by go_num, by rw [grpGo, if_pos HBI.out, HA.out, HU.out, HMQ.out, show a ||| m = am from HAM.out, show max u q = t from HT.out]; exact HC7.out, HB7.out⟩
              case measure => simp [intOf]; omega
          · have hlt' : ¬ (j : Int) < (ne : Int) := by omega
            obtain rfl : j = ne := by omega
            obtain ⟨rfl, rfl⟩ : n = a ∧ v = u := by
              have h := HQ.out
              have h1 := HA.out
              have h2 := HU.out
              rw [h] at h1 h2
              exact ⟨h1, h2⟩
            go_wp2
            obtain ⟨W5, hW5⟩ : ∃ V, (wr.setCell ⟨gp + 1, 0, none⟩ (.int .u64 (n : Int))).setCell ⟨gp + 1, 1, none⟩ (.int .i64 v) = V := ⟨_, rfl⟩
            have hQ5 : Blk W5 (gp + 1) 33 #[.int .u64 (n : Int), .int .i64 v] := by rw [← hW5]; have h := (HLr.out.set_ 0 (.int .u64 (n : Int))).set_ 1 (.int .i64 v); simpa using h
            have hB5 : Below w.heap.size w W5 := by rw [← hW5]; exact (HBr.out.setCell (p := ⟨gp + 1, 0, none⟩) hgw _).setCell (p := ⟨gp + 1, 1, none⟩) hgw _
            rw [hW5]
            have q0 : W5.cell? ⟨gp + 1, 0, none⟩ = some (.int .u64 (n : Int)) := (hQ5.cell 0).trans rfl
            have q1 : W5.cell? ⟨gp + 1, 1, none⟩ = some (.int .i64 v) := (hQ5.cell 1).trans rfl
            exact bodyPost_ret (v := .agg #[.int .u64 (n : Int), .int .i64 v]) (by simp [results, Try.results15, go_sem, q0, q1]) rfl ⟨rfl, hB5⟩
      · skip
        obtain ⟨rfl, rfl⟩ : n = 0 ∧ v = 0 := by
          have h := HV.out
          unfold grpLab at h
          rw [if_neg (by rw [HNG.out]; rintro ⟨h1, h2, h3⟩; first | omega | cases h1)] at h
          injection h with h1 h2
          exact ⟨h1.symm, h2.symm⟩
        go_wp2
        obtain ⟨W5, hW5⟩ : ∃ V, (w1.setCell ⟨gp + 1, 0, none⟩ (.int .u64 0)).setCell ⟨gp + 1, 1, none⟩ (.int .i64 0) = V := ⟨_, rfl⟩
        have hQ5 : Blk W5 (gp + 1) 33 #[.int .u64 0, .int .i64 0] := by rw [← hW5]; have h := (HL1.out.set_ 0 (.int .u64 0)).set_ 1 (.int .i64 0); simpa using h
        have hB5 : Below w.heap.size w W5 := by rw [← hW5]; exact (HB1.out.setCell (p := ⟨gp + 1, 0, none⟩) hgw _).setCell (p := ⟨gp + 1, 1, none⟩) hgw _
        rw [hW5]
        have q0 : W5.cell? ⟨gp + 1, 0, none⟩ = some (.int .u64 0) := (hQ5.cell 0).trans rfl
        have q1 : W5.cell? ⟨gp + 1, 1, none⟩ = some (.int .i64 0) := (hQ5.cell 1).trans rfl
        exact bodyPost_ret (v := .agg #[.int .u64 0, .int .i64 0]) (by simp [results, Try.results15, go_sem, q0, q1]) rfl ⟨rfl, hB5⟩
    · skip
      obtain ⟨rfl, rfl⟩ : n = 0 ∧ v = 0 := by
        have h := HV.out
        unfold grpLab at h
        rw [if_neg (by rw [HNG.out]; rintro ⟨h1, h2, h3⟩; first | omega | cases h1)] at h
        injection h with h1 h2
        exact ⟨h1.symm, h2.symm⟩
      go_wp2
      obtain ⟨W5, hW5⟩ : ∃ V, (w1.setCell ⟨gp + 1, 0, none⟩ (.int .u64 0)).setCell ⟨gp + 1, 1, none⟩ (.int .i64 0) = V := ⟨_, rfl⟩
      have hQ5 : Blk W5 (gp + 1) 33 #[.int .u64 0, .int .i64 0] := by rw [← hW5]; have h := (HL1.out.set_ 0 (.int .u64 0)).set_ 1 (.int .i64 0); simpa using h
      have hB5 : Below w.heap.size w W5 := by rw [← hW5]; exact (HB1.out.setCell (p := ⟨gp + 1, 0, none⟩) hgw _).setCell (p := ⟨gp + 1, 1, none⟩) hgw _
      rw [hW5]
      have q0 : W5.cell? ⟨gp + 1, 0, none⟩ = some (.int .u64 0) := (hQ5.cell 0).trans rfl
      have q1 : W5.cell? ⟨gp + 1, 1, none⟩ = some (.int .i64 0) := (hQ5.cell 1).trans rfl
      exact bodyPost_ret (v := .agg #[.int .u64 0, .int .i64 0]) (by simp [results, Try.results15, go_sem, q0, q1]) rfl ⟨rfl, hB5⟩
end Go.Proofs.Ytakofbkbbmpfeaa

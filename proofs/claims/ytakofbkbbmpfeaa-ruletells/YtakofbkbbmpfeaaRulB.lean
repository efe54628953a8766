/- rule.rightEnts, rightGroups, rightWhos, rightRules, Right. -/
import Derived.Test.YtakofbkbbmpfeaaPolF
import Derived.Test.YtakofbkbbmpfeaaRulA
namespace Go.Proofs.Ytakofbkbbmpfeaa
open Go.RowKit
/-- A loop over a list, all of whose elements so far are right. -/
def RuRel {α : Type} (W : World) (p : Nat → α → Prop) (l : List α) (i : Value) (wr : World) : Prop := ∃ k : Nat, k ≤ l.length ∧ i = .int .i64 k ∧ UpTo p l k ∧ Below W.heap.size W wr
theorem bool_of (p : Prop) : ∃ b : Bool, b = true ↔ p := by
  by_cases h : p
  · exact ⟨true, by simp [h]⟩
  · exact ⟨false, by simp [h]⟩
/-- Nothing is left of v, shifted by n. -/
theorem shr_zero (v n : Nat) : ((v : Int) / 2 ^ n != 0) = !decide (v < 2 ^ n) := by
  unfold bne
  congr 1
  have e : (v : Int) / 2 ^ n = ((v / 2 ^ n : Nat) : Int) := by simp
  rw [e]
  by_cases h : v < 2 ^ n
  · rw [decide_eq_true h, Nat.div_eq_of_lt h]
    rfl
  · rw [decide_eq_false h]
    have : 0 < v / 2 ^ n := Nat.div_pos (by omega) (Nat.two_pow_pos n)
    simp
    omega
set_option maxRecDepth 100000 in
set_option maxHeartbeats 3200000 in
theorem ruEnts_c (A : Option Addr) (ne c : Nat) (E : List EntP) (w : World) (h : RdR w w.heap.size A ne (E.flatMap entV)) (hne : E.length = ne) (β : Bool) (hβ : β = true ↔ ((1 ≤ ne ∧ ne ≤ 8) ∧ AllI_ EntOk E)) :
    Calls Try.prog 23 #[.slice A ne c] w (RetB w β) := by
  have HB := Lib.hid hβ
  have HRD := Lib.hid h
  have HNE := Lib.hid hne
  clear hβ h hne
  by_cases k1 : 1 ≤ ne
  · by_cases k2 : ne ≤ 8
    · go_enter Try.func23, Try.ntmps23
      go_wp2
      go_loopw [15] (fun i wr => RuRel w EntOk E i wr) (fun i _ => ne - (intOf i).toNat)
      case atStart => exact ⟨0, by omega, rfl, UpTo.zero _ _, Below.refl _ _⟩
      case round =>
        obtain ⟨k, hk, rfl, hup, hb⟩ := hrel
        have HBk := Lib.hid hb
        have HK := Lib.hid hup
        have HRk := Lib.hid (HRD.out.below hb)
        have hlen := HNE.out
        rw [hlen] at hk
        clear hb hup
        by_cases hlt : k < ne
        · have hlt' : (k : Int) < (ne : Int) := by omega
          obtain ⟨e, he⟩ := get_at (l := E) (k := k) (by rw [hlen]; exact hlt)
          obtain ⟨g, o, rfl, hg, c0, c1, c2, c3⟩ := rd_ent HRk.out (by omega) he
          obtain ⟨b, hb0⟩ := bool_of (EntOk k e)
          have HE := Lib.hid (fun V : World => ruEnt_c e k V b hb0)
          have HB0 := Lib.hid hb0
          obtain ⟨lv, sc, pa, sh⟩ := e
          dsimp only at c0 c1 c2 c3
          have HE2 := Lib.hid (fun V : World => show Calls Try.prog 44 #[.agg #[.int .i64 lv, .int .i64 sc, .int .i64 pa, .int .i64 sh], .int .i64 (k : Int)] V (RetB V b) from HE.out V)
          clear hb0 HE
          have hfin := bel_alloc HBk.out (.cells #[.int .i64 lv, .int .i64 sc, .int .i64 pa, .int .i64 sh] 44)
          obtain ⟨W, hW⟩ : ∃ V, wr.alloc (.cells #[.int .i64 lv, .int .i64 sc, .int .i64 pa, .int .i64 sh] 44) = V := ⟨_, rfl⟩
          rw [hW] at hfin
          have HF := Lib.hid hfin
          have HW := Lib.hid hW
          clear hfin hW
          go_wp2_with fail
          rw [HW.out]
          (with_reducible refine (HE2.out _).mono ?_)
          rintro e w1 ⟨rfl, hb⟩
          have HF1 := Lib.hid (HF.out.trans (hb.mono HF.out.size))
          clear hb
          cases b
          · obtain rfl : β = false := false_of HB.out (by rintro ⟨_, q⟩; exact absurd (HB0.out.2 (q k _ he)) (by simp))
            go_wp2
            go_ret
            exact ⟨rfl, HF1.out⟩
          · go_wp2
            go_roundw
            case rel => exact ⟨k + 1, by omega, by go_num, HK.out.next he (HB0.out.1 (by first | rfl | trivial)), HF1.out⟩
            case measure => simp [intOf]; omega
        · have hlt' : ¬ (k : Int) < (ne : Int) := by omega
          obtain rfl : β = true := HB.out.2 ⟨⟨k1, k2⟩, HK.out.all (by omega)⟩
          go_wp2
          go_ret
          exact ⟨rfl, HBk.out⟩
    · obtain rfl : β = false := false_of HB.out (by rintro ⟨⟨_, q⟩, _⟩; omega)
      go_enter Try.func23, Try.ntmps23
      go_wp2
      go_ret
      exact ⟨rfl, Below.refl _ _⟩
  · obtain rfl : β = false := false_of HB.out (by rintro ⟨⟨q, _⟩, _⟩; omega)
    go_enter Try.func23, Try.ntmps23
    go_wp2
    go_ret
    exact ⟨rfl, Below.refl _ _⟩
set_option maxRecDepth 100000 in
set_option maxHeartbeats 3200000 in
theorem ruGrps_c (s : Slp) (P : PolP) (w : World) (ne ng nh nu nr : Nat) (h : PolRd w w.heap.size s P) (hwd : PolWd P) (hne : P.ents.length = ne) (hng : P.grp.length = ng) (he8 : ne ≤ 8) (β : Bool) (hβ : β = true ↔ (ng ≤ 4 ∧ AllI_ (fun _ g => 0 < g ∧ g < 2 ^ P.ents.length) P.grp)) :
    Calls Try.prog 24 #[.agg #[.slice s.Ae ne s.ce, .slice s.Ag ng s.cg, .slice s.Ah nh s.ch, .slice s.Au nu s.cu, .slice s.Ar nr s.cr]] w (RetB w β) := by
  obtain ⟨W, hW⟩ : ∃ V, w.alloc (.cells #[.slice s.Ae ne s.ce, .slice s.Ag ng s.cg, .slice s.Ah nh s.ch, .slice s.Au nu s.cu, .slice s.Ar nr s.cr] 28) = V := ⟨_, rfl⟩
  obtain ⟨gp, hgp⟩ : ∃ g, w.heap.size = g := ⟨_, rfl⟩
  have HBW := Lib.hid (show Below w.heap.size w W from by rw [← hW]; exact bel_alloc (Below.refl _ _) _)
  have HPB := Lib.hid (show PolBl W gp s ne ng nh nu nr from by rw [← hW, ← hgp]; exact Blk.new _ _ _)
  have HRD := Lib.hid (h.below HBW.out)
  rw [hne] at hβ
  have HB := Lib.hid hβ
  have HWG := Lib.hid hwd.1
  have HNG := Lib.hid hng
  have hlg := hwd.2.2.2.2.1
  rw [hng] at hlg
  obtain ⟨lp, x0, x1, x2, x3, x4⟩ := HPB.out.cells
  clear h hwd hne hng hβ
  by_cases k1 : ng ≤ 4
  · go_enter Try.func24, Try.ntmps24
    go_wp2
    clear hW hgp lp x0 x1 x2 x3 x4
    go_loopw [12] (fun i wr => RuRel W (fun _ g => 0 < g ∧ g < 2 ^ ne) P.grp i wr) (fun i _ => ng - (intOf i).toNat)
    case atStart => exact ⟨0, by omega, rfl, UpTo.zero _ _, Below.refl _ _⟩
    case round =>
      obtain ⟨k, hk, rfl, hup, hb⟩ := hrel
      have HBk := Lib.hid hb
      have HK := Lib.hid hup
      have HPk := Lib.hid (show PolBl wr gp s ne ng nh nu nr from Blk.below HPB.out hb (Blk.lt HPB.out))
      have HRk := Lib.hid (HRD.out.below (hb.mono HBW.out.size))
      obtain ⟨lp, x0, x1, x2, x3, x4⟩ := HPk.out.cells
      have hlen := HNG.out
      rw [hlen] at hk
      have HF := Lib.hid (HBW.out.trans (hb.mono HBW.out.size))
      clear hb hup
      by_cases hlt : k < ng
      · have hlt' : (k : Int) < (ng : Int) := by omega
        obtain ⟨v, hv⟩ := get_at (l := P.grp) (k := k) (by rw [hlen]; exact hlt)
        obtain ⟨g, o, hA, hg, c0⟩ := rd_u HRk.out.2.1 (by rw [hlen]; omega) hv
        have hvw := HWG.out v (List.mem_of_getElem? hv)
        rw [hA] at x1 ⊢
        clear hA
        by_cases j1 : v = 0
        · have hv0 : ((v : Int) == 0) = true := by simp; omega
          obtain rfl : β = false := false_of HB.out (by rintro ⟨_, q⟩; have h := q k _ hv; omega)
          go_wp2
          go_ret
          exact ⟨rfl, HF.out⟩
        · have hv0 : ((v : Int) == 0) = false := by simp; omega
          have hn1 : (0 : Int) ≤ (ne : Int) := by omega
          have hn2 : (ne : Int) < 64 := by omega
          have hs := shr_zero v ne
          by_cases j2 : v < 2 ^ ne
          · rw [decide_eq_true j2] at hs
            have hs2 : ((v : Int) / 2 ^ ne != 0) = false := hs
            have J2 := Lib.hid j2
            clear hs j2
            go_wp2
            go_roundw
            case rel => exact ⟨k + 1, by omega, by go_num, HK.out.next hv ⟨by omega, J2.out⟩, HBk.out⟩
            case measure => simp [intOf]; omega
          · rw [decide_eq_false j2] at hs
            have hs2 : ((v : Int) / 2 ^ ne != 0) = true := hs
            obtain rfl : β = false := false_of HB.out (by rintro ⟨_, q⟩; exact j2 (q k _ hv).2)
            clear hs j2
            go_wp2
            go_ret
            exact ⟨rfl, HF.out⟩
      · have hlt' : ¬ (k : Int) < (ng : Int) := by omega
        obtain rfl : β = true := HB.out.2 ⟨k1, HK.out.all (by omega)⟩
        go_wp2
        go_ret
        exact ⟨rfl, HF.out⟩
  · obtain rfl : β = false := false_of HB.out (by rintro ⟨q, _⟩; omega)
    go_enter Try.func24, Try.ntmps24
    go_wp2
    go_ret
    exact ⟨rfl, HBW.out⟩
set_option maxRecDepth 100000 in
set_option maxHeartbeats 3200000 in
theorem ruWhos_c (A : Option Addr) (nh c : Nat) (E : List WhoP) (w : World) (h : RdR w w.heap.size A nh (E.flatMap whoV)) (hw : ∀ x ∈ E, x.set < 18446744073709551616 ∧ x.ro < 18446744073709551616) (hnh : E.length = nh) (β : Bool) (hβ : β = true ↔ ((1 ≤ nh ∧ nh ≤ 8) ∧ AllI_ (fun _ x => rightB x.set x.lv = true ∧ x.ro < 256) E)) :
    Calls Try.prog 25 #[.slice A nh c] w (RetB w β) := by
  have HB := Lib.hid hβ
  have HRD := Lib.hid h
  have HNE := Lib.hid hnh
  have HWH := Lib.hid hw
  clear hβ h hnh hw
  by_cases k1 : 1 ≤ nh
  · by_cases k2 : nh ≤ 8
    · go_enter Try.func25, Try.ntmps25
      go_wp2
      go_loopw [15] (fun i wr => RuRel w (fun _ x => rightB x.set x.lv = true ∧ x.ro < 256) E i wr) (fun i _ => nh - (intOf i).toNat)
      case atStart => exact ⟨0, by omega, rfl, UpTo.zero _ _, Below.refl _ _⟩
      case round =>
        obtain ⟨k, hk, rfl, hup, hb⟩ := hrel
        have HBk := Lib.hid hb
        have HK := Lib.hid hup
        have HRk := Lib.hid (HRD.out.below hb)
        have hlen := HNE.out
        rw [hlen] at hk
        clear hb hup
        by_cases hlt : k < nh
        · have hlt' : (k : Int) < (nh : Int) := by omega
          obtain ⟨x, hx⟩ := get_at (l := E) (k := k) (by rw [hlen]; exact hlt)
          obtain ⟨g, o, rfl, hg, c0, c1, c2⟩ := rd_who HRk.out (by omega) hx
          have hww := HWH.out _ (List.mem_of_getElem? hx)
          obtain ⟨st, lv, ro⟩ := x
          dsimp only at c0 c1 c2 hww
          obtain ⟨ρ, hρ⟩ : ∃ ρ, rightB st lv = ρ := ⟨_, rfl⟩
          have HR := Lib.hid (fun V : World => by have h := labRight_c st (st : Int) lv V rfl; rw [hρ] at h; exact h)
          have HRHO := Lib.hid hρ
          clear hρ
          obtain ⟨W, hW⟩ : ∃ V, wr.alloc (.cells #[.int .u64 (st : Int), .int .i64 lv, .int .u64 (ro : Int)] 46) = V := ⟨_, rfl⟩
          obtain ⟨gq, hgq⟩ : ∃ g, wr.heap.size = g := ⟨_, rfl⟩
          have HF := Lib.hid (show Below w.heap.size w W from by rw [← hW]; exact bel_alloc HBk.out _)
          have HT := Lib.hid (show Blk W gq 46 #[.int .u64 (st : Int), .int .i64 lv, .int .u64 (ro : Int)] from by rw [← hW, ← hgq]; exact Blk.new _ _ _)
          have HW := Lib.hid hW
          have HGQ := Lib.hid hgq
          clear hW hgq
          go_wp2_with fail
          rw [HW.out, HGQ.out]
          (with_reducible refine (HR.out _).mono ?_)
          rintro e w1 ⟨rfl, hb⟩
          have HF1 := Lib.hid (HF.out.trans (hb.mono HF.out.size))
          have r2 : w1.cell? ⟨gq, 2, none⟩ = some (.int .u64 (ro : Int)) := ((HT.out.below hb HT.out.lt).cell 2).trans rfl
          have rl := (HT.out.below hb HT.out.lt).lt
          clear hb c0 c1 c2 HW
          cases ρ
          · obtain rfl : β = false := false_of HB.out (by rintro ⟨_, q⟩; have h := (q k _ hx).1; dsimp only at h; rw [HRHO.out] at h; cases h)
            go_wp2
            go_ret
            exact ⟨rfl, HF1.out⟩
          · by_cases j2 : ro < 256
            · have hs2 : ((ro : Int) / 256 != 0) = false := (shr_zero ro 8).trans (by rw [decide_eq_true (show ro < 2 ^ 8 from j2)]; rfl)
              go_wp2
              go_roundw
              case rel => exact ⟨k + 1, by omega, by go_num, HK.out.next hx ⟨HRHO.out, j2⟩, HF1.out⟩
              case measure => simp [intOf]; omega
            · have hs2 : ((ro : Int) / 256 != 0) = true := (shr_zero ro 8).trans (by rw [decide_eq_false (show ¬ ro < 2 ^ 8 from j2)]; rfl)
              obtain rfl : β = false := false_of HB.out (by rintro ⟨_, q⟩; exact j2 (q k _ hx).2)
              go_wp2
              go_ret
              exact ⟨rfl, HF1.out⟩
        · have hlt' : ¬ (k : Int) < (nh : Int) := by omega
          obtain rfl : β = true := HB.out.2 ⟨⟨k1, k2⟩, HK.out.all (by omega)⟩
          go_wp2
          go_ret
          exact ⟨rfl, HBk.out⟩
    · obtain rfl : β = false := false_of HB.out (by rintro ⟨⟨_, q⟩, _⟩; omega)
      go_enter Try.func25, Try.ntmps25
      go_wp2
      go_ret
      exact ⟨rfl, Below.refl _ _⟩
  · obtain rfl : β = false := false_of HB.out (by rintro ⟨⟨q, _⟩, _⟩; omega)
    go_enter Try.func25, Try.ntmps25
    go_wp2
    go_ret
    exact ⟨rfl, Below.refl _ _⟩
set_option maxRecDepth 100000 in
set_option maxHeartbeats 3200000 in
theorem ruRules_c (s : Slp) (P : PolP) (w : World) (ne ng nh nu nr : Nat) (h : PolRd w w.heap.size s P) (hwd : PolWd P) (hnr : P.rules.length = nr) (β : Bool) (hβ : β = true ↔ (nr ≤ 32 ∧ AllI_ (fun _ r => RulP ne nu ng r) P.rules)) :
    Calls Try.prog 27 #[.agg #[.slice s.Ae ne s.ce, .slice s.Ag ng s.cg, .slice s.Ah nh s.ch, .slice s.Au nu s.cu, .slice s.Ar nr s.cr]] w (RetB w β) := by
  obtain ⟨W, hW⟩ : ∃ V, w.alloc (.cells #[.slice s.Ae ne s.ce, .slice s.Ag ng s.cg, .slice s.Ah nh s.ch, .slice s.Au nu s.cu, .slice s.Ar nr s.cr] 28) = V := ⟨_, rfl⟩
  obtain ⟨gp, hgp⟩ : ∃ g, w.heap.size = g := ⟨_, rfl⟩
  have HBW := Lib.hid (show Below w.heap.size w W from by rw [← hW]; exact bel_alloc (Below.refl _ _) _)
  have HPB := Lib.hid (show PolBl W gp s ne ng nh nu nr from by rw [← hW, ← hgp]; exact Blk.new _ _ _)
  have HRD := Lib.hid (h.below HBW.out)
  have HB := Lib.hid hβ
  have HWR := Lib.hid hwd.2.2.1
  have HNR := Lib.hid hnr
  have hlr := hwd.2.2.2.2.2.2.2
  rw [hnr] at hlr
  obtain ⟨lp, x0, x1, x2, x3, x4⟩ := HPB.out.cells
  clear h hwd hnr hβ
  by_cases k1 : nr ≤ 32
  · go_enter Try.func27, Try.ntmps27
    go_wp2
    clear hW hgp lp x0 x1 x2 x3 x4
    go_loopw [12] (fun i wr => RuRel W (fun _ r => RulP ne nu ng r) P.rules i wr) (fun i _ => nr - (intOf i).toNat)
    case atStart => exact ⟨0, by omega, rfl, UpTo.zero _ _, Below.refl _ _⟩
    case round =>
      obtain ⟨k, hk, rfl, hup, hb⟩ := hrel
      have HBk := Lib.hid hb
      have HK := Lib.hid hup
      have HPk := Lib.hid (show PolBl wr gp s ne ng nh nu nr from Blk.below HPB.out hb (Blk.lt HPB.out))
      have HRk := Lib.hid (HRD.out.below (hb.mono HBW.out.size))
      obtain ⟨lp, x0, x1, x2, x3, x4⟩ := HPk.out.cells
      have hlen := HNR.out
      rw [hlen] at hk
      have HF := Lib.hid (HBW.out.trans (hb.mono HBW.out.size))
      clear hb hup
      by_cases hlt : k < nr
      · have hlt' : (k : Int) < (nr : Int) := by omega
        obtain ⟨r, hr⟩ := get_at (l := P.rules) (k := k) (by rw [hlen]; exact hlt)
        obtain ⟨g, o, hA, hg, hc⟩ := rd_rule HRk.out.2.2.2.2 (by rw [hlen]; omega) hr
        have hrw := HWR.out _ (List.mem_of_getElem? hr)
        obtain ⟨b, hb0⟩ := bool_of (RulP ne nu ng r)
        obtain ⟨tag, role, verb, ent, grp, line, neg, c0, c1, sc, toS, toL⟩ := r
        have HRR := Lib.hid (fun V : World => show Calls Try.prog 46 #[.agg #[.slice s.Ae ne s.ce, .slice s.Ag ng s.cg, .slice s.Ah nh s.ch, .slice s.Au nu s.cu, .slice s.Ar nr s.cr], .agg #[.int .i64 tag, .int .i64 role, .int .i64 verb, .int .i64 ent, .int .i64 grp, .int .i64 line, .bool neg, .int .u64 (c0 : Int), .int .u64 (c1 : Int), .int .i64 sc, .int .u64 (toS : Int), .int .i64 toL]] V (RetB V b) from ruRule_c s.Ae s.Ag s.Ah s.Au s.Ar ne s.ce ng s.cg nh s.ch nu s.cu nr s.cr ⟨tag, role, verb, ent, grp, line, neg, c0, c1, sc, toS, toL⟩ V hrw b hb0)
        have HR0 := Lib.hid hb0
        have z0 : wr.cell? ⟨g, o + k * 12, none⟩ = some (.int .i64 tag) := hc 0 _ (by decide) rfl
        have z1 : wr.cell? ⟨g, o + k * 12 + 1, none⟩ = some (.int .i64 role) := hc 1 _ (by decide) rfl
        have z2 : wr.cell? ⟨g, o + k * 12 + 2, none⟩ = some (.int .i64 verb) := hc 2 _ (by decide) rfl
        have z3 : wr.cell? ⟨g, o + k * 12 + 3, none⟩ = some (.int .i64 ent) := hc 3 _ (by decide) rfl
        have z4 : wr.cell? ⟨g, o + k * 12 + 4, none⟩ = some (.int .i64 grp) := hc 4 _ (by decide) rfl
        have z5 : wr.cell? ⟨g, o + k * 12 + 5, none⟩ = some (.int .i64 line) := hc 5 _ (by decide) rfl
        have z6 : wr.cell? ⟨g, o + k * 12 + 6, none⟩ = some (.bool neg) := hc 6 _ (by decide) rfl
        have z7 : wr.cell? ⟨g, o + k * 12 + 7, none⟩ = some (.int .u64 (c0 : Int)) := hc 7 _ (by decide) rfl
        have z8 : wr.cell? ⟨g, o + k * 12 + 8, none⟩ = some (.int .u64 (c1 : Int)) := hc 8 _ (by decide) rfl
        have z9 : wr.cell? ⟨g, o + k * 12 + 9, none⟩ = some (.int .i64 sc) := hc 9 _ (by decide) rfl
        have z10 : wr.cell? ⟨g, o + k * 12 + 10, none⟩ = some (.int .u64 (toS : Int)) := hc 10 _ (by decide) rfl
        have z11 : wr.cell? ⟨g, o + k * 12 + 11, none⟩ = some (.int .i64 toL) := hc 11 _ (by decide) rfl
        have hgl : g < wr.heap.size := by have := HBk.out.size; have := HBW.out.size; omega
        obtain ⟨W2, hW2⟩ : ∃ V, wr.alloc (.cells #[.int .i64 tag, .int .i64 role, .int .i64 verb, .int .i64 ent, .int .i64 grp, .int .i64 line, .bool neg, .int .u64 (c0 : Int), .int .u64 (c1 : Int), .int .i64 sc, .int .u64 (toS : Int), .int .i64 toL] 51) = V := ⟨_, rfl⟩
        have HF2 := Lib.hid (show Below W.heap.size W W2 from by rw [← hW2]; exact bel_alloc HBk.out _)
        have HW2 := Lib.hid hW2
        rw [hA] at x4 HRR ⊢
        clear hc hb0 hA hW2
        go_wp2_with fail
        rw [HW2.out]
        (with_reducible refine (HRR.out _).mono ?_)
        rintro e w1 ⟨rfl, hb⟩
        have HF3 := Lib.hid (HF2.out.trans (hb.mono HF2.out.size))
        clear hb
        cases b
        · obtain rfl : β = false := false_of HB.out (by rintro ⟨_, q⟩; exact absurd (HR0.out.2 (q k _ hr)) (by simp))
          go_wp2
          go_ret
          exact ⟨rfl, HBW.out.trans (HF3.out.mono HBW.out.size)⟩
        · go_wp2
          go_roundw
          case rel => exact ⟨k + 1, by omega, by go_num, HK.out.next hr (HR0.out.1 (by first | rfl | trivial)), HF3.out⟩
          case measure => simp [intOf]; omega
      · have hlt' : ¬ (k : Int) < (nr : Int) := by omega
        obtain rfl : β = true := HB.out.2 ⟨k1, HK.out.all (by omega)⟩
        go_wp2
        go_ret
        exact ⟨rfl, HF.out⟩
  · obtain rfl : β = false := false_of HB.out (by rintro ⟨q, _⟩; omega)
    go_enter Try.func27, Try.ntmps27
    go_wp2
    go_ret
    exact ⟨rfl, HBW.out⟩
end Go.Proofs.Ytakofbkbbmpfeaa

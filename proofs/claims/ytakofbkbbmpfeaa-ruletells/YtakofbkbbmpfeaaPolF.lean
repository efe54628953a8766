/- pyxref4.RightPolicy: is a policy right? -/
import Derived.Test.YtakofbkbbmpfeaaPolE
import Derived.Test.YtakofbkbbmpfeaaPolC
import Derived.Test.YtakofbkbbmpfeaaRoleC
import Derived.Test.YtakofbkbbmpfeaaOrd2
namespace Go.Proofs.Ytakofbkbbmpfeaa
open Go.RowKit
/-- A row that reads as these cells, below block B. -/
def RdR (w : World) (B : Nat) (A : Option Addr) (n : Nat) (vs : List Value) : Prop := 0 < n → ∃ g o, A = some ⟨g, o, none⟩ ∧ g < B ∧ ∀ j u, vs[j]? = some u → w.cell? ⟨g, o + j, none⟩ = some u
theorem RdR.below {w w' : World} {B n : Nat} {A : Option Addr} {vs : List Value} (h : RdR w B A n vs) (hb : Below B w w') : RdR w' B A n vs := fun hn => by
 obtain ⟨g, o, e, hg, hc⟩ := h hn
 exact ⟨g, o, e, hg, fun j u hu => (hb.cell (p := ⟨g, o + j, none⟩) hg).trans (hc j u hu)⟩
theorem RdR.more {w : World} {B B' n : Nat} {A : Option Addr} {vs : List Value} (h : RdR w B A n vs) (hB : B ≤ B') : RdR w B' A n vs := fun hn => by
 obtain ⟨g, o, e, hg, hc⟩ := h hn
 exact ⟨g, o, e, by omega, hc⟩
/-- Where a policy's slices lie, and their room. -/
structure Slp where
 Ae : Option Addr
 ce : Nat
 Ag : Option Addr
 cg : Nat
 Ah : Option Addr
 ch : Nat
 Au : Option Addr
 cu : Nat
 Ar : Option Addr
 cr : Nat
def PolRd (w : World) (B : Nat) (s : Slp) (P : PolP) : Prop :=
 RdR w B s.Ae P.ents.length (P.ents.flatMap entV) ∧ RdR w B s.Ag P.grp.length (P.grp.map uV) ∧ RdR w B s.Ah P.who.length (P.who.flatMap whoV) ∧ IL w B s.Au P.up.length s.cu P.up ∧ RdR w B s.Ar P.rules.length (P.rules.flatMap ruleV)
theorem PolRd.below {w w' : World} {B : Nat} {s : Slp} {P : PolP} (h : PolRd w B s P) (hb : Below B w w') : PolRd w' B s P := ⟨h.1.below hb, h.2.1.below hb, h.2.2.1.below hb, h.2.2.2.1.below hb, h.2.2.2.2.below hb⟩
theorem PolRd.more {w : World} {B B' : Nat} {s : Slp} {P : PolP} (h : PolRd w B s P) (hB : B ≤ B') : PolRd w B' s P := ⟨h.1.more hB, h.2.1.more hB, h.2.2.1.more hB, h.2.2.2.1.more hB, h.2.2.2.2.more hB⟩
/-- Its words are words; it is of a size that may be. -/
def PolWd (P : PolP) : Prop := (∀ g ∈ P.grp, g < 18446744073709551616) ∧ (∀ x ∈ P.who, x.set < 18446744073709551616 ∧ x.ro < 18446744073709551616) ∧ (∀ r ∈ P.rules, RuleW r) ∧ P.ents.length ≤ 1000000 ∧ P.grp.length ≤ 1000000 ∧ P.who.length ≤ 1000000 ∧ P.up.length ≤ 1000000 ∧ P.rules.length ≤ 1000000
theorem len_ent (e : EntP) : (entV e).length = 4 := rfl
theorem len_who (x : WhoP) : (whoV x).length = 3 := rfl
theorem len_rule (r : RuleP) : (ruleV r).length = 12 := rfl
def UpTo {α : Type} (p : Nat → α → Prop) (l : List α) (k : Nat) : Prop := ∀ i a, i < k → l[i]? = some a → p i a
theorem UpTo.zero {α : Type} (p : Nat → α → Prop) (l : List α) : UpTo p l 0 := fun i a h => by omega
theorem UpTo.next {α : Type} {p : Nat → α → Prop} {l : List α} {k : Nat} (h : UpTo p l k) {a : α} (e : l[k]? = some a) (ha : p k a) : UpTo p l (k + 1) := fun i b hi eb => by
 rcases Nat.lt_or_ge i k with g | g
 ·exact h i b g eb
 ·obtain rfl : i = k := by omega
  rw [e] at eb
  cases eb
  exact ha
theorem UpTo.all {α : Type} {p : Nat → α → Prop} {l : List α} {k : Nat} (h : UpTo p l k) (hk : l.length ≤ k) : AllI_ p l := fun i a e => h i a (by have := (List.getElem?_eq_some_iff.1 e).1; omega) e
theorem get_at {α : Type} {l : List α} {k : Nat} (h : k < l.length) : ∃ a, l[k]? = some a := ⟨l[k], List.getElem?_eq_getElem h⟩
def RightPol (P : PolP) : Prop := ((1 ≤ P.ents.length ∧ P.ents.length ≤ 8) ∧ P.grp.length ≤ 4 ∧ (1 ≤ P.who.length ∧ P.who.length ≤ 8) ∧ rightL P.up = true ∧ P.rules.length ≤ 32) ∧
 AllI_ EntOk P.ents ∧ AllI_ (fun _ g => 0 < g ∧ g < 2 ^ P.ents.length) P.grp ∧ AllI_ (fun _ x => rightB x.set x.lv = true ∧ x.ro < 256) P.who ∧ AllI_ (fun _ r => RulP P.ents.length P.up.length P.grp.length r) P.rules
theorem rd_u {w : World} {B n k : Nat} {A : Option Addr} {l : List Nat} (h : RdR w B A n (l.map uV)) (hn : 0 < n) {a : Nat} (ha : l[k]? = some a) : ∃ g o, A = some ⟨g, o, none⟩ ∧ g < B ∧ w.cell? ⟨g, o + k, none⟩ = some (.int .u64 (a : Int)) := by
 obtain ⟨g, o, ea, hg, hc⟩ := h hn
 exact ⟨g, o, ea, hg, hc k _ (by rw [List.getElem?_map, ha]; rfl)⟩
theorem rd_who {w : World} {B n k : Nat} {A : Option Addr} {l : List WhoP} (h : RdR w B A n (l.flatMap whoV)) (hn : 0 < n) {x : WhoP} (hx : l[k]? = some x) : ∃ g o, A = some ⟨g, o, none⟩ ∧ g < B ∧ w.cell? ⟨g, o + k * 3, none⟩ = some (.int .u64 (x.set : Int)) ∧ w.cell? ⟨g, o + k * 3 + 1, none⟩ = some (.int .i64 x.lv) ∧ w.cell? ⟨g, o + k * 3 + 2, none⟩ = some (.int .u64 (x.ro : Int)) := by
 obtain ⟨g, o, ea, hg, hc⟩ := h hn
 refine ⟨g, o, ea, hg, ?_, ?_, ?_⟩
 ·exact hc (k * 3 + 0) _ (flat_get whoV 3 len_who l k 0 x hx (by decide))
 ·rw [Nat.add_assoc]; exact hc (k * 3 + 1) _ (flat_get whoV 3 len_who l k 1 x hx (by decide))
 ·rw [Nat.add_assoc]; exact hc (k * 3 + 2) _ (flat_get whoV 3 len_who l k 2 x hx (by decide))
theorem rd_rule {w : World} {B n k : Nat} {A : Option Addr} {l : List RuleP} (h : RdR w B A n (l.flatMap ruleV)) (hn : 0 < n) {r : RuleP} (hr : l[k]? = some r) : ∃ g o, A = some ⟨g, o, none⟩ ∧ g < B ∧ ∀ j v, j < 12 → (ruleV r)[j]? = some v → w.cell? ⟨g, o + k * 12 + j, none⟩ = some v := by
 obtain ⟨g, o, ea, hg, hc⟩ := h hn
 refine ⟨g, o, ea, hg, fun j v hj hv => ?_⟩
 rw [Nat.add_assoc]
 exact hc (k * 12 + j) v ((flat_get ruleV 12 len_rule l k j r hr hj).trans hv)
theorem rd_ent {w : World} {B n k : Nat} {A : Option Addr} {l : List EntP} (h : RdR w B A n (l.flatMap entV)) (hn : 0 < n) {e : EntP} (he : l[k]? = some e) : ∃ g o, A = some ⟨g, o, none⟩ ∧ g < B ∧ w.cell? ⟨g, o + k * 4, none⟩ = some (.int .i64 e.lv) ∧ w.cell? ⟨g, o + k * 4 + 1, none⟩ = some (.int .i64 e.sc) ∧ w.cell? ⟨g, o + k * 4 + 2, none⟩ = some (.int .i64 e.pa) ∧ w.cell? ⟨g, o + k * 4 + 3, none⟩ = some (.int .i64 e.sh) := by
 obtain ⟨g, o, ea, hg, hc⟩ := h hn
 refine ⟨g, o, ea, hg, ?_, ?_, ?_, ?_⟩
 ·exact hc (k * 4 + 0) _ (flat_get entV 4 len_ent l k 0 e he (by decide))
 ·rw [Nat.add_assoc]; exact hc (k * 4 + 1) _ (flat_get entV 4 len_ent l k 1 e he (by decide))
 ·rw [Nat.add_assoc]; exact hc (k * 4 + 2) _ (flat_get entV 4 len_ent l k 2 e he (by decide))
 ·rw [Nat.add_assoc]; exact hc (k * 4 + 3) _ (flat_get entV 4 len_ent l k 3 e he (by decide))
def PolBl (w : World) (gp : Nat) (s : Slp) (ne ng nh nu nr : Nat) : Prop := Blk w gp 28 #[.slice s.Ae ne s.ce, .slice s.Ag ng s.cg, .slice s.Ah nh s.ch, .slice s.Au nu s.cu, .slice s.Ar nr s.cr]
theorem PolBl.cells {w : World} {gp ne ng nh nu nr : Nat} {s : Slp} (h : PolBl w gp s ne ng nh nu nr) : gp < w.heap.size ∧ w.cell? ⟨gp, 0, none⟩ = some (.slice s.Ae ne s.ce) ∧ w.cell? ⟨gp, 1, none⟩ = some (.slice s.Ag ng s.cg) ∧ w.cell? ⟨gp, 2, none⟩ = some (.slice s.Ah nh s.ch) ∧ w.cell? ⟨gp, 3, none⟩ = some (.slice s.Au nu s.cu) ∧ w.cell? ⟨gp, 4, none⟩ = some (.slice s.Ar nr s.cr) :=
 ⟨Blk.lt h, (Blk.cell h 0).trans rfl, (Blk.cell h 1).trans rfl, (Blk.cell h 2).trans rfl, (Blk.cell h 3).trans rfl, (Blk.cell h 4).trans rfl⟩
def RpolRel {α : Type} (W : World) (p : Nat → α → Prop) (l : List α) (i : Value) (wr : World) : Prop := ∃ k : Nat, k ≤ l.length ∧ i = .int .i64 k ∧ UpTo p l k ∧ Below W.heap.size W wr
set_option maxRecDepth 100000 in
set_option maxHeartbeats 3200000 in
theorem rightPol_c (s : Slp) (P : PolP) (w : World) (ne ng nh nu nr : Nat) (h : PolRd w w.heap.size s P) (hwd : PolWd P) (hne : P.ents.length = ne) (hng : P.grp.length = ng) (hnh : P.who.length = nh) (hnu : P.up.length = nu) (hnr : P.rules.length = nr) (β : Bool) (hβ : β = true ↔ RightPol P) :
  Calls Try.prog 9 #[.agg #[.slice s.Ae ne s.ce, .slice s.Ag ng s.cg, .slice s.Ah nh s.ch, .slice s.Au nu s.cu, .slice s.Ar nr s.cr]] w (RetB w β) := by
 obtain ⟨W, hW⟩ : ∃ V, w.alloc (.cells #[.slice s.Ae ne s.ce, .slice s.Ag ng s.cg, .slice s.Ah nh s.ch, .slice s.Au nu s.cu, .slice s.Ar nr s.cr] 28) = V := ⟨_, rfl⟩
 obtain ⟨gp, hgp⟩ : ∃ g, w.heap.size = g := ⟨_, rfl⟩
 have HBW := Lib.hid (show Below w.heap.size w W from by rw [← hW]; exact bel_alloc (Below.refl _ _) _)
 have HPB := Lib.hid (show PolBl W gp s ne ng nh nu nr from by rw [← hW, ← hgp]; exact Blk.new _ _ _)
 have HRD := Lib.hid (show PolRd W w.heap.size s P from h.below (by rw [← hW]; exact bel_alloc (Below.refl _ _) _))
 have HB2 := Lib.hid hβ
 have HU := Lib.hid (fun (V : World) (β : Bool) (hb : Below W.heap.size W V) (hb2 : rightL P.up = β) => by
  have h4 := (h.below (by rw [← hW] at hb; exact (bel_alloc (Below.refl w.heap.size w) _).trans (hb.mono (by simp)))).2.2.2.1
  have g := rfRight_c s.Au nu s.cu P.up V (by rw [hnu] at h4; exact h4.more (by have := hb.size; rw [← hW] at this; simp at this; omega)) (by have := hwd.2.2.2.2.2.2.1; omega)
  rw [hb2] at g
  exact g)
 obtain ⟨hwg, hwh, hwr, hle, hlg, hlh, hlu, hlr⟩ := hwd
 rw [hne] at hle; rw [hng] at hlg; rw [hnh] at hlh; rw [hnu] at hlu; rw [hnr] at hlr
 have HWG := Lib.hid hwg
 have HWH := Lib.hid hwh
 have HWR := Lib.hid hwr
 have HNE := Lib.hid hne
 have HNG := Lib.hid hng
 have HNH := Lib.hid hnh
 have HNU := Lib.hid hnu
 have HNR := Lib.hid hnr
 obtain ⟨lp, x0, x1, x2, x3, x4⟩ := HPB.out.cells
 clear h hβ hwg hwh hwr hne hng hnh hnu hnr
 by_cases k1 : 1 ≤ ne
 ·by_cases k2 : ne ≤ 8
  ·by_cases k3 : ng ≤ 4
   ·by_cases k4 : 1 ≤ nh
    ·by_cases k5 : nh ≤ 8
     ·have HUW := Lib.hid (fun (β : Bool) => HU.out W β (Below.refl _ _))
      cases hu : rightL P.up
      ·skip
       obtain rfl : β = false := by
        cases β with
        | false => rfl
        | true => exact absurd (HB2.out.1 rfl) (by rintro ⟨⟨⟨q1, q2⟩, q3, ⟨q4, q5⟩, q6, q7⟩, q8, q9, qa, qb⟩; rw [hu] at q6; cases q6)
       go_enter Try.func9, Try.ntmps9
       go_wp2_with fail
       (with_reducible refine (HUW.out false hu).mono ?_)
       rintro e w' ⟨rfl, rfl⟩
       go_wp2
       go_ret
       exact ⟨rfl, HBW.out⟩
      ·by_cases k7 : nr ≤ 32
       ·go_enter Try.func9, Try.ntmps9
        go_wp2_with fail
        (with_reducible refine (HUW.out true hu).mono ?_)
        rintro e w' ⟨rfl, rfl⟩
        go_wp2
        have HUT := Lib.hid hu
        clear hW hgp HU HUW hu lp x0 x1 x2 x3 x4
        go_loopw [3] (fun i wr => RpolRel W EntOk P.ents i wr) (fun i _ => ne - (intOf i).toNat)
        case atStart => exact ⟨0, by omega, rfl, UpTo.zero _ _, Below.refl _ _⟩
        case round =>
         obtain ⟨k, hk, rfl, hup, hb⟩ := hrel
         have HB := Lib.hid hb
         have HK := Lib.hid hup
         have HPk := Lib.hid (show PolBl wr gp s ne ng nh nu nr from Blk.below HPB.out hb (Blk.lt HPB.out))
         have HRk := Lib.hid (HRD.out.below (hb.mono HBW.out.size))
         obtain ⟨lp, x0, x1, x2, x3, x4⟩ := HPk.out.cells
         have hlen := HNE.out
         rw [hlen] at hk
         clear hb hup
         by_cases hlt : k < ne
         ·have hlt' : (k : Int) < (ne : Int) := by omega
          obtain ⟨e, he⟩ := get_at (l := P.ents) (k := k) (by rw [hlen]; exact hlt)
          obtain ⟨g, o, hA, hg, c0, c1, c2, c3⟩ := rd_ent HRk.out.1 (by rw [hlen]; omega) he
          obtain ⟨lv, sc, pa, sh⟩ := e
          dsimp only at c0 c1 c2 c3
          rw [hA] at x0
          clear hA
          have hfin := HBW.out.trans ((bel_alloc HB.out (.cells #[.int .i64 lv, .int .i64 sc, .int .i64 pa, .int .i64 sh] 44)).mono HBW.out.size)
          have HF := Lib.hid hfin
          clear hfin
          by_cases j1 : 0 ≤ lv
          ·skip
           by_cases j2 : lv ≤ 3
           ·skip
            by_cases j3 : 0 ≤ sc
            ·skip
             by_cases j4 : sc ≤ 4
             ·skip
              by_cases j5 : -1 ≤ pa
              ·skip
               by_cases j6 : pa < (k : Int)
               ·skip
                by_cases j7 : 1 ≤ sh
                ·skip
                 by_cases j8 : sh ≤ 10000
                 ·skip
                  by_cases hp : pa < 0
                  ·by_cases hs : sh = 10000
                   ·have hsb : (sh != 10000) = false := by simp; omega
                    have j9 : pa < 0 → sh = 10000 := fun _ => hs
                    clear hs
                    go_wp2
                    go_roundw
                    case rel => exact ⟨k + 1, by omega, by go_num, HK.out.next he ⟨j1, j2, j3, j4, j5, j6, j7, j8, j9⟩, bel_alloc HB.out _⟩
                    case measure => simp [intOf]; omega
                   ·have hsb : (sh != 10000) = true := by simp; omega
                    obtain rfl : β = false := by
                     cases β with
                     | false => rfl
                     | true => exact absurd (HB2.out.1 rfl) (by rintro ⟨⟨⟨q1, q2⟩, q3, ⟨q4, q5⟩, q6, q7⟩, q8, q9, qa, qb⟩; have h := q8 k _ he; unfold EntOk at h; dsimp only at h; omega)
                    go_wp2
                    go_ret
                    exact ⟨rfl, HF.out⟩
                  ·have j9 : pa < 0 → sh = 10000 := fun h => absurd h hp
                   go_wp2
                   go_roundw
                   case rel => exact ⟨k + 1, by omega, by go_num, HK.out.next he ⟨j1, j2, j3, j4, j5, j6, j7, j8, j9⟩, bel_alloc HB.out _⟩
                   case measure => simp [intOf]; omega
                 ·skip
                  obtain rfl : β = false := by
                   cases β with
                   | false => rfl
                   | true => exact absurd (HB2.out.1 rfl) (by rintro ⟨⟨⟨q1, q2⟩, q3, ⟨q4, q5⟩, q6, q7⟩, q8, q9, qa, qb⟩; have h := q8 k _ he; unfold EntOk at h; dsimp only at h; omega)
                  go_wp2
                  go_ret
                  exact ⟨rfl, HF.out⟩
                ·skip
                 obtain rfl : β = false := by
                  cases β with
                  | false => rfl
                  | true => exact absurd (HB2.out.1 rfl) (by rintro ⟨⟨⟨q1, q2⟩, q3, ⟨q4, q5⟩, q6, q7⟩, q8, q9, qa, qb⟩; have h := q8 k _ he; unfold EntOk at h; dsimp only at h; omega)
                 go_wp2
                 go_ret
                 exact ⟨rfl, HF.out⟩
               ·skip
                obtain rfl : β = false := by
                 cases β with
                 | false => rfl
                 | true => exact absurd (HB2.out.1 rfl) (by rintro ⟨⟨⟨q1, q2⟩, q3, ⟨q4, q5⟩, q6, q7⟩, q8, q9, qa, qb⟩; have h := q8 k _ he; unfold EntOk at h; dsimp only at h; omega)
                go_wp2
                go_ret
                exact ⟨rfl, HF.out⟩
              ·skip
               obtain rfl : β = false := by
                cases β with
                | false => rfl
                | true => exact absurd (HB2.out.1 rfl) (by rintro ⟨⟨⟨q1, q2⟩, q3, ⟨q4, q5⟩, q6, q7⟩, q8, q9, qa, qb⟩; have h := q8 k _ he; unfold EntOk at h; dsimp only at h; omega)
               go_wp2
               go_ret
               exact ⟨rfl, HF.out⟩
             ·skip
              obtain rfl : β = false := by
               cases β with
               | false => rfl
               | true => exact absurd (HB2.out.1 rfl) (by rintro ⟨⟨⟨q1, q2⟩, q3, ⟨q4, q5⟩, q6, q7⟩, q8, q9, qa, qb⟩; have h := q8 k _ he; unfold EntOk at h; dsimp only at h; omega)
              go_wp2
              go_ret
              exact ⟨rfl, HF.out⟩
            ·skip
             obtain rfl : β = false := by
              cases β with
              | false => rfl
              | true => exact absurd (HB2.out.1 rfl) (by rintro ⟨⟨⟨q1, q2⟩, q3, ⟨q4, q5⟩, q6, q7⟩, q8, q9, qa, qb⟩; have h := q8 k _ he; unfold EntOk at h; dsimp only at h; omega)
             go_wp2
             go_ret
             exact ⟨rfl, HF.out⟩
           ·skip
            obtain rfl : β = false := by
             cases β with
             | false => rfl
             | true => exact absurd (HB2.out.1 rfl) (by rintro ⟨⟨⟨q1, q2⟩, q3, ⟨q4, q5⟩, q6, q7⟩, q8, q9, qa, qb⟩; have h := q8 k _ he; unfold EntOk at h; dsimp only at h; omega)
            go_wp2
            go_ret
            exact ⟨rfl, HF.out⟩
          ·skip
           obtain rfl : β = false := by
            cases β with
            | false => rfl
            | true => exact absurd (HB2.out.1 rfl) (by rintro ⟨⟨⟨q1, q2⟩, q3, ⟨q4, q5⟩, q6, q7⟩, q8, q9, qa, qb⟩; have h := q8 k _ he; unfold EntOk at h; dsimp only at h; omega)
           go_wp2
           go_ret
           exact ⟨rfl, HF.out⟩
         ·have hlt' : ¬ (k : Int) < (ne : Int) := by omega
          have HE := Lib.hid (HK.out.all (by omega))
          go_wp2
          clear hlt hlt' hk lp x0 x1 x2 x3 x4 HPk HRk HK
          go_loopw [5] (fun i wr => RpolRel W (fun _ g => 0 < g ∧ g < 2 ^ P.ents.length) P.grp i wr) (fun i _ => ng - (intOf i).toNat)
          case atStart => exact ⟨0, by omega, rfl, UpTo.zero _ _, HB.out⟩
          case round =>
           obtain ⟨k, hk, rfl, hup, hb⟩ := hrel
           have HB := Lib.hid hb
           have HK := Lib.hid hup
           have HPk := Lib.hid (show PolBl wr gp s ne ng nh nu nr from Blk.below HPB.out hb (Blk.lt HPB.out))
           have HRk := Lib.hid (HRD.out.below (hb.mono HBW.out.size))
           obtain ⟨lp, x0, x1, x2, x3, x4⟩ := HPk.out.cells
           have hlen := HNG.out
           rw [hlen] at hk
           clear hb hup
           by_cases hlt : k < ng
           ·have hlt' : (k : Int) < (ng : Int) := by omega
            obtain ⟨v, hv⟩ := get_at (l := P.grp) (k := k) (by rw [hlen]; exact hlt)
            obtain ⟨g, o, hA, hg, c0⟩ := rd_u HRk.out.2.1 (by rw [hlen]; omega) hv
            rw [hA] at x1
            clear hA
            have hvw := HWG.out v (List.mem_of_getElem? hv)
            obtain ⟨q, hq⟩ : ∃ q : Nat, 2 ^ ne = q := ⟨_, rfl⟩
            have hs := shl_few (k := ne) (by omega)
            rw [bN_of (by omega), hq] at hs
            have hs0 : IntKind.u64.wrap (2 ^ min (IntKind.u64.wrap (ne : Int)).toNat 64) = (q : Int) := by rw [wrapN (by omega), Int.toNat_natCast, Nat.min_eq_left (by omega)]; exact hs
            have HF := Lib.hid (HBW.out.trans (HB.out.mono HBW.out.size))
            by_cases j1 : v = 0
            ·have hv0 : ((v : Int) == 0) = true := by simp; omega
             obtain rfl : β = false := by
              cases β with
              | false => rfl
              | true => exact absurd (HB2.out.1 rfl) (by rintro ⟨⟨⟨q1, q2⟩, q3, ⟨q4, q5⟩, q6, q7⟩, q8, q9, qa, qb⟩; have h := q9 k _ hv; omega)
             go_wp2_with fail
             go_quiet (fail)
             go_wp2
             go_ret
             exact ⟨rfl, belDr HF.out _⟩
            ·have hv0 : ((v : Int) == 0) = false := by simp; omega
             by_cases j2 : v < q
             ·have j2' : ¬ (q : Int) ≤ (v : Int) := by omega
              go_wp2_with fail
              go_quiet (fail)
              go_wp2
              go_roundw
              case rel => exact ⟨k + 1, by omega, by go_num, HK.out.next hv ⟨by omega, by rw [HNE.out, hq]; exact j2⟩, belDr HB.out _⟩
              case measure => simp [intOf]; omega
             ·have j2' : (q : Int) ≤ (v : Int) := by omega
              obtain rfl : β = false := by
               cases β with
               | false => rfl
               | true => exact absurd (HB2.out.1 rfl) (by rintro ⟨⟨⟨q1, q2⟩, q3, ⟨q4, q5⟩, q6, q7⟩, q8, q9, qa, qb⟩; have h := q9 k _ hv; rw [HNE.out, hq] at h; omega)
              go_wp2_with fail
              go_quiet (fail)
              go_wp2
              go_ret
              exact ⟨rfl, belDr HF.out _⟩
           ·have hlt' : ¬ (k : Int) < (ng : Int) := by omega
            have HG := Lib.hid (HK.out.all (by omega))
            go_wp2
            clear hlt hlt' hk lp x0 x1 x2 x3 x4 HPk HRk HK
            go_loopw [6] (fun i wr => RpolRel W (fun _ x => rightB x.set x.lv = true ∧ x.ro < 256) P.who i wr) (fun i _ => nh - (intOf i).toNat)
            case atStart => exact ⟨0, by omega, rfl, UpTo.zero _ _, HB.out⟩
            case round =>
             obtain ⟨k, hk, rfl, hup, hb⟩ := hrel
             have HB := Lib.hid hb
             have HK := Lib.hid hup
             have HPk := Lib.hid (show PolBl wr gp s ne ng nh nu nr from Blk.below HPB.out hb (Blk.lt HPB.out))
             have HRk := Lib.hid (HRD.out.below (hb.mono HBW.out.size))
             obtain ⟨lp, x0, x1, x2, x3, x4⟩ := HPk.out.cells
             have hlen := HNH.out
             rw [hlen] at hk
             clear hb hup
             by_cases hlt : k < nh
             ·have hlt' : (k : Int) < (nh : Int) := by omega
              obtain ⟨x, hx⟩ := get_at (l := P.who) (k := k) (by rw [hlen]; exact hlt)
              obtain ⟨g, o, hA, hg, c0, c1, c2⟩ := rd_who HRk.out.2.2.1 (by rw [hlen]; omega) hx
              obtain ⟨st, lv, ro⟩ := x
              dsimp only at c0 c1 c2
              have hww := HWH.out _ (List.mem_of_getElem? hx)
              dsimp only at hww
              rw [hA] at x2
              have HA := Lib.hid hA
              clear hA
              obtain ⟨ρ, hρ⟩ : ∃ ρ, rightB st lv = ρ := ⟨_, rfl⟩
              go_wp2_with fail
              (with_reducible refine (rright_c st (st : Int) lv _ rfl).mono ?_)
              rintro e w1 ⟨rfl, hb1⟩
              rw [hρ]
              have HB1 := Lib.hid (HB.out.trans (hb1.mono HB.out.size))
              have HP1 := Lib.hid (show PolBl w1 gp s ne ng nh nu nr from Blk.below HPk.out hb1 (Blk.lt HPk.out))
              have HF := Lib.hid (HBW.out.trans (HB1.out.mono HBW.out.size))
              have c2' : w1.cell? ⟨g, o + k * 3 + 2, none⟩ = some (.int .u64 (ro : Int)) := (hb1.cell (p := ⟨g, o + k * 3 + 2, none⟩) (by have := HB.out.size; have := HBW.out.size; show g < wr.heap.size; omega)).trans c2
              clear c0 c1 c2 lp x0 x1 x2 x3 x4 hb1
              obtain ⟨lp, x0, x1, x2, x3, x4⟩ := HP1.out.cells
              rw [HA.out] at x2
              cases ρ
              ·skip
               obtain rfl : β = false := by
                cases β with
                | false => rfl
                | true => exact absurd (HB2.out.1 rfl) (by rintro ⟨⟨⟨q1, q2⟩, q3, ⟨q4, q5⟩, q6, q7⟩, q8, q9, qa, qb⟩; have h := (qa k _ hx).1; dsimp only at h; rw [hρ] at h; cases h)
               go_wp2
               go_ret
               exact ⟨rfl, HF.out⟩
              ·by_cases j1 : ro < 256
               ·have j1' : ¬ (256 : Int) ≤ (ro : Int) := by omega
                go_wp2
                go_roundw
                case rel => exact ⟨k + 1, by omega, by go_num, HK.out.next hx ⟨hρ, j1⟩, HB1.out⟩
                case measure => simp [intOf]; omega
               ·have j1' : (256 : Int) ≤ (ro : Int) := by omega
                obtain rfl : β = false := by
                 cases β with
                 | false => rfl
                 | true => exact absurd (HB2.out.1 rfl) (by rintro ⟨⟨⟨q1, q2⟩, q3, ⟨q4, q5⟩, q6, q7⟩, q8, q9, qa, qb⟩; have h := (qa k _ hx).2; dsimp only at h; omega)
                go_wp2
                go_ret
                exact ⟨rfl, HF.out⟩
             ·have hlt' : ¬ (k : Int) < (nh : Int) := by omega
              have HW3 := Lib.hid (HK.out.all (by omega))
              go_wp2
              clear hlt hlt' hk lp x0 x1 x2 x3 x4 HPk HRk HK
              go_loopw [7] (fun i wr => RpolRel W (fun _ r => RulP P.ents.length P.up.length P.grp.length r) P.rules i wr) (fun i _ => nr - (intOf i).toNat)
              case atStart => exact ⟨0, by omega, rfl, UpTo.zero _ _, HB.out⟩
              case round =>
               obtain ⟨k, hk, rfl, hup, hb⟩ := hrel
               have HB := Lib.hid hb
               have HK := Lib.hid hup
               have HPk := Lib.hid (show PolBl wr gp s ne ng nh nu nr from Blk.below HPB.out hb (Blk.lt HPB.out))
               have HRk := Lib.hid (HRD.out.below (hb.mono HBW.out.size))
               obtain ⟨lp, x0, x1, x2, x3, x4⟩ := HPk.out.cells
               have hlen := HNR.out
               rw [hlen] at hk
               clear hb hup
               by_cases hlt : k < nr
               ·have hlt' : (k : Int) < (nr : Int) := by omega
                obtain ⟨r, hr⟩ := get_at (l := P.rules) (k := k) (by rw [hlen]; exact hlt)
                obtain ⟨g, o, hA, hg, hc⟩ := rd_rule HRk.out.2.2.2.2 (by rw [hlen]; omega) hr
                have hrw := HWR.out _ (List.mem_of_getElem? hr)
                obtain ⟨tag, role, verb, ent, grp, line, neg, c0, c1, sc, toS, toL⟩ := r
                have HC := Lib.hid hc
                have hgl : g < wr.heap.size := by have := HB.out.size; have := HBW.out.size; omega
                obtain ⟨b, hb0⟩ : ∃ b : Bool, b = true ↔ RulP ne nu ng ⟨tag, role, verb, ent, grp, line, neg, c0, c1, sc, toS, toL⟩ := by
                 by_cases h : RulP ne nu ng ⟨tag, role, verb, ent, grp, line, neg, c0, c1, sc, toS, toL⟩
                 ·exact ⟨true, by simp [h]⟩
                 ·exact ⟨false, by simp [h]⟩
                have HRR := Lib.hid (fun V : World => show Calls Try.prog 30 #[.agg #[.slice s.Ae ne s.ce, .slice s.Ag ng s.cg, .slice s.Ah nh s.ch, .slice s.Au nu s.cu, .slice s.Ar nr s.cr], .agg #[.int .i64 tag, .int .i64 role, .int .i64 verb, .int .i64 ent, .int .i64 grp, .int .i64 line, .bool neg, .int .u64 (c0 : Int), .int .u64 (c1 : Int), .int .i64 sc, .int .u64 (toS : Int), .int .i64 toL]] V (RetB V b) from rightRule_c s.Ae s.Ag s.Ah s.Au s.Ar ne s.ce ng s.cg nh s.ch nu s.cu nr s.cr ⟨tag, role, verb, ent, grp, line, neg, c0, c1, sc, toS, toL⟩ V hrw b hb0)
                have HR0 := Lib.hid hb0
                have HF := Lib.hid (fun (V : World) (h : Below wr.heap.size wr V) => HBW.out.trans ((HB.out.trans (h.mono HB.out.size)).mono HBW.out.size))
                have HA := Lib.hid hA
                clear hc hb0 hA
                go_wp2_with fail
                clear lp x0 x1 x2 x3 x4
                refine wp_region_ord (S := fun V => Below wr.heap.size wr V) (by kernel_rfl) ?_
                refine ord_take (v := ?_) (i := 0) (fuel := 7) (by simp; rfl) (by kernel_rfl) (by kernel_rfl) (by kernel_rfl) (Or.inl ⟨by rfl, fun w' hSw => ?_⟩) (Below.refl wr.heap.size wr).drew ?_
                rotate_left
                ·obtain ⟨lp, x0, x1, x2, x3, x4⟩ := PolBl.cells (Blk.below HPk.out hSw (Blk.lt HPk.out))
                 go_simp
                 all_goals with_reducible rfl
                simp only [Act.put, List.setIfInBounds_toArray, List.set_cons_zero, List.set_cons_succ]
                refine ord_take (v := ?_) (i := 1) (fuel := 6) (by simp; rfl) (by kernel_rfl) (by kernel_rfl) (by kernel_rfl) (Or.inl ⟨by rfl, fun w' hSw => ?_⟩) (Below.refl wr.heap.size wr).drew ?_
                rotate_left
                ·go_simp
                 all_goals with_reducible rfl
                simp only [Act.put, List.setIfInBounds_toArray, List.set_cons_zero, List.set_cons_succ]
                refine ord_take (v := ?_) (i := 2) (fuel := 5) (by simp; rfl) (by kernel_rfl) (by kernel_rfl) (by kernel_rfl) (Or.inl ⟨by rfl, fun w' hSw => ?_⟩) (Below.refl wr.heap.size wr).drew ?_
                rotate_left
                ·obtain ⟨lp, x0, x1, x2, x3, x4⟩ := PolBl.cells (Blk.below HPk.out hSw (Blk.lt HPk.out))
                 rw [HA.out] at x4
                 go_simp
                 all_goals with_reducible rfl
                simp only [Act.put, List.setIfInBounds_toArray, List.set_cons_zero, List.set_cons_succ]
                refine ord_take (v := ?_) (i := 3) (fuel := 4) (by simp; rfl) (by kernel_rfl) (by kernel_rfl) (by kernel_rfl) (Or.inl ⟨by rfl, fun w' hSw => ?_⟩) (Below.refl wr.heap.size wr).drew ?_
                rotate_left
                ·go_simp
                 all_goals with_reducible rfl
                simp only [Act.put, List.setIfInBounds_toArray, List.set_cons_zero, List.set_cons_succ]
                refine ord_take (v := ?_) (i := 4) (fuel := 3) (by simp; rfl) (by kernel_rfl) (by kernel_rfl) (by kernel_rfl) (Or.inl ⟨by rfl, fun w' hSw => ?_⟩) (Below.refl wr.heap.size wr).drew ?_
                rotate_left
                ·go_simp
                 all_goals with_reducible rfl
                simp only [Act.put, List.setIfInBounds_toArray, List.set_cons_zero, List.set_cons_succ]
                refine ord_take (v := ?_) (i := 5) (fuel := 2) (by simp; rfl) (by kernel_rfl) (by kernel_rfl) (by kernel_rfl) (Or.inl ⟨by rfl, fun w' hSw => ?_⟩) (Below.refl wr.heap.size wr).drew ?_
                rotate_left
                ·have z0 : w'.cell? ⟨g, o + k * 12, none⟩ = some (.int .i64 tag) := (hSw.cell (p := ⟨g, o + k * 12, none⟩) hgl).trans (HC.out 0 _ (by decide) rfl)
                 have z1 : w'.cell? ⟨g, o + k * 12 + 1, none⟩ = some (.int .i64 role) := (hSw.cell (p := ⟨g, o + k * 12 + 1, none⟩) hgl).trans (HC.out 1 _ (by decide) rfl)
                 have z2 : w'.cell? ⟨g, o + k * 12 + 2, none⟩ = some (.int .i64 verb) := (hSw.cell (p := ⟨g, o + k * 12 + 2, none⟩) hgl).trans (HC.out 2 _ (by decide) rfl)
                 have z3 : w'.cell? ⟨g, o + k * 12 + 3, none⟩ = some (.int .i64 ent) := (hSw.cell (p := ⟨g, o + k * 12 + 3, none⟩) hgl).trans (HC.out 3 _ (by decide) rfl)
                 have z4 : w'.cell? ⟨g, o + k * 12 + 4, none⟩ = some (.int .i64 grp) := (hSw.cell (p := ⟨g, o + k * 12 + 4, none⟩) hgl).trans (HC.out 4 _ (by decide) rfl)
                 have z5 : w'.cell? ⟨g, o + k * 12 + 5, none⟩ = some (.int .i64 line) := (hSw.cell (p := ⟨g, o + k * 12 + 5, none⟩) hgl).trans (HC.out 5 _ (by decide) rfl)
                 have z6 : w'.cell? ⟨g, o + k * 12 + 6, none⟩ = some (.bool neg) := (hSw.cell (p := ⟨g, o + k * 12 + 6, none⟩) hgl).trans (HC.out 6 _ (by decide) rfl)
                 have z7 : w'.cell? ⟨g, o + k * 12 + 7, none⟩ = some (.int .u64 (c0 : Int)) := (hSw.cell (p := ⟨g, o + k * 12 + 7, none⟩) hgl).trans (HC.out 7 _ (by decide) rfl)
                 have z8 : w'.cell? ⟨g, o + k * 12 + 8, none⟩ = some (.int .u64 (c1 : Int)) := (hSw.cell (p := ⟨g, o + k * 12 + 8, none⟩) hgl).trans (HC.out 8 _ (by decide) rfl)
                 have z9 : w'.cell? ⟨g, o + k * 12 + 9, none⟩ = some (.int .i64 sc) := (hSw.cell (p := ⟨g, o + k * 12 + 9, none⟩) hgl).trans (HC.out 9 _ (by decide) rfl)
                 have z10 : w'.cell? ⟨g, o + k * 12 + 10, none⟩ = some (.int .u64 (toS : Int)) := (hSw.cell (p := ⟨g, o + k * 12 + 10, none⟩) hgl).trans (HC.out 10 _ (by decide) rfl)
                 have z11 : w'.cell? ⟨g, o + k * 12 + 11, none⟩ = some (.int .i64 toL) := (hSw.cell (p := ⟨g, o + k * 12 + 11, none⟩) hgl).trans (HC.out 11 _ (by decide) rfl)
                 go_simp
                 all_goals with_reducible rfl
                simp only [Act.put, List.setIfInBounds_toArray, List.set_cons_zero, List.set_cons_succ]
                refine ord_call (f := 30) (args := #[.agg #[.slice s.Ae ne s.ce, .slice s.Ag ng s.cg, .slice s.Ah nh s.ch, .slice s.Au nu s.cu, .slice s.Ar nr s.cr], .agg #[.int .i64 tag, .int .i64 role, .int .i64 verb, .int .i64 ent, .int .i64 grp, .int .i64 line, .bool neg, .int .u64 (c0 : Int), .int .u64 (c1 : Int), .int .i64 sc, .int .u64 (toS : Int), .int .i64 toL]]) (w1 := wr.drew) (i := 6) (fuel := 1) (by simp; rfl) (by kernel_rfl) (by rfl) ?_ ?_
                ·go_simp
                 all_goals with_reducible rfl
                (with_reducible refine (HRR.out _).mono ?_)
                rintro e w1 ⟨rfl, hb1⟩
                have HS1 := Lib.hid (show Below wr.heap.size wr w1 from (Below.refl wr.heap.size wr).drew.trans (hb1.mono (Nat.le_refl _)))
                refine ⟨_, rfl, HS1.out, ?_⟩
                simp only [Act.put, List.setIfInBounds_toArray, List.set_cons_zero, List.set_cons_succ]
                refine ord_take (v := ?_) (i := 7) (fuel := 0) (by simp; rfl) (by kernel_rfl) (by kernel_rfl) (by kernel_rfl) (Or.inl ⟨by rfl, fun w' hSw => ?_⟩) HS1.out ?_
                rotate_left
                ·go_simp
                 all_goals with_reducible rfl
                simp only [Act.put, List.setIfInBounds_toArray, List.set_cons_zero, List.set_cons_succ]
                refine ord_done (by kernel_rfl) ?_ _
                clear hb1
                cases b
                ·skip
                 obtain rfl : β = false := by
                  cases β with
                  | false => rfl
                  | true => exact absurd (HB2.out.1 rfl) (by rintro ⟨⟨⟨q1, q2⟩, q3, ⟨q4, q5⟩, q6, q7⟩, q8, q9, qa, qb⟩; have h := qb k _ hr; rw [HNE.out, HNU.out, HNG.out] at h; exact absurd (HR0.out.2 h) (by simp))
                 go_wp2
                 go_ret
                 exact ⟨rfl, HF.out _ HS1.out⟩
                ·go_wp2
                 go_roundw
                 case rel => exact ⟨k + 1, by omega, by go_num, HK.out.next hr (by rw [HNE.out, HNU.out, HNG.out]; exact HR0.out.1 rfl), HB.out.trans (HS1.out.mono HB.out.size)⟩
                 case measure => simp [intOf]; omega
               ·have hlt' : ¬ (k : Int) < (nr : Int) := by omega
                have hall := HK.out.all (by omega)
                obtain rfl : β = true := HB2.out.2 ⟨⟨by rw [HNE.out]; exact ⟨k1, k2⟩, by rw [HNG.out]; exact k3, by rw [HNH.out]; exact ⟨k4, k5⟩, HUT.out, by rw [HNR.out]; exact k7⟩, HE.out, HG.out, HW3.out, hall⟩
                go_wp2
                go_ret
                exact ⟨rfl, HBW.out.trans (HB.out.mono HBW.out.size)⟩
       ·skip
        obtain rfl : β = false := by
         cases β with
         | false => rfl
         | true => exact absurd (HB2.out.1 rfl) (by rintro ⟨⟨⟨q1, q2⟩, q3, ⟨q4, q5⟩, q6, q7⟩, q8, q9, qa, qb⟩; have := HNR.out; omega)
        go_enter Try.func9, Try.ntmps9
        go_wp2_with fail
        (with_reducible refine (HUW.out true hu).mono ?_)
        rintro e w' ⟨rfl, rfl⟩
        go_wp2
        go_ret
        exact ⟨rfl, HBW.out⟩
     ·skip
      obtain rfl : β = false := by
       cases β with
       | false => rfl
       | true => exact absurd (HB2.out.1 rfl) (by rintro ⟨⟨⟨q1, q2⟩, q3, ⟨q4, q5⟩, q6, q7⟩, q8, q9, qa, qb⟩; have := HNE.out; have := HNG.out; have := HNH.out; have := HNR.out; omega)
      go_enter Try.func9, Try.ntmps9
      go_wp2
      go_ret
      exact ⟨rfl, HBW.out⟩
    ·skip
     obtain rfl : β = false := by
      cases β with
      | false => rfl
      | true => exact absurd (HB2.out.1 rfl) (by rintro ⟨⟨⟨q1, q2⟩, q3, ⟨q4, q5⟩, q6, q7⟩, q8, q9, qa, qb⟩; have := HNE.out; have := HNG.out; have := HNH.out; have := HNR.out; omega)
     go_enter Try.func9, Try.ntmps9
     go_wp2
     go_ret
     exact ⟨rfl, HBW.out⟩
   ·skip
    obtain rfl : β = false := by
     cases β with
     | false => rfl
     | true => exact absurd (HB2.out.1 rfl) (by rintro ⟨⟨⟨q1, q2⟩, q3, ⟨q4, q5⟩, q6, q7⟩, q8, q9, qa, qb⟩; have := HNE.out; have := HNG.out; have := HNH.out; have := HNR.out; omega)
    go_enter Try.func9, Try.ntmps9
    go_wp2
    go_ret
    exact ⟨rfl, HBW.out⟩
  ·skip
   obtain rfl : β = false := by
    cases β with
    | false => rfl
    | true => exact absurd (HB2.out.1 rfl) (by rintro ⟨⟨⟨q1, q2⟩, q3, ⟨q4, q5⟩, q6, q7⟩, q8, q9, qa, qb⟩; have := HNE.out; have := HNG.out; have := HNH.out; have := HNR.out; omega)
   go_enter Try.func9, Try.ntmps9
   go_wp2
   go_ret
   exact ⟨rfl, HBW.out⟩
 ·skip
  obtain rfl : β = false := by
   cases β with
   | false => rfl
   | true => exact absurd (HB2.out.1 rfl) (by rintro ⟨⟨⟨q1, q2⟩, q3, ⟨q4, q5⟩, q6, q7⟩, q8, q9, qa, qb⟩; have := HNE.out; have := HNG.out; have := HNH.out; have := HNR.out; omega)
  go_enter Try.func9, Try.ntmps9
  go_wp2
  go_ret
  exact ⟨rfl, HBW.out⟩
end Go.Proofs.Ytakofbkbbmpfeaa

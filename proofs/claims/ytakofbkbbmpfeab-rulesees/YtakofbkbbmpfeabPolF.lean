/- pyxref4.RightPolicy: is a policy right? -/
import Derived.Test.YtakofbkbbmpfeabPolE
import Derived.Test.YtakofbkbbmpfeabPolC
import Derived.Test.YtakofbkbbmpfeabRoleC
import Derived.Test.YtakofbkbbmpfeabOrd
namespace Go.Proofs.Ytakofbkbbmpfeab
open Go.RowKit
/-- A row that reads as these cells, below block B. -/
def RdR (w : World) (B : Nat) (A : Option Addr) (n : Nat) (vs : List Value) : Prop := 0 < n → ∃ g o, A = some ⟨g, o, none⟩ ∧ g < B ∧ ∀ j u, vs[j]? = some u → w.cell? ⟨g, o + j, none⟩ = some u
theorem RdR.below {w w' : World} {B n : Nat} {A : Option Addr} {vs : List Value} (h : RdR w B A n vs) (hb : Below B w w') : RdR w' B A n vs := fun hn => by
  obtain ⟨g, o, e, hg, hc⟩ := h hn
  exact ⟨g, o, e, hg, fun j u hu => (hb.cell (p := ⟨g, o + j, none⟩) hg).trans (hc j u hu)⟩
theorem RdR.more {w : World} {B B' n : Nat} {A : Option Addr} {vs : List Value} (h : RdR w B A n vs) (hB : B ≤ B') : RdR w B' A n vs := fun hn => by
  obtain ⟨g, o, e, hg, hc⟩ := h hn
  exact ⟨g, o, e, by omega, hc⟩
/-- Where a policy's slices lie, and their room. -/
structure Slp where
  Ae : Option Addr
  ce : Nat
  Ag : Option Addr
  cg : Nat
  Ah : Option Addr
  ch : Nat
  Au : Option Addr
  cu : Nat
  Ar : Option Addr
  cr : Nat
def PolRd (w : World) (B : Nat) (s : Slp) (P : PolP) : Prop :=
  RdR w B s.Ae P.ents.length (P.ents.flatMap entV) ∧ RdR w B s.Ag P.grp.length (P.grp.map uV) ∧ RdR w B s.Ah P.who.length (P.who.flatMap whoV) ∧ IL w B s.Au P.up.length s.cu P.up ∧ RdR w B s.Ar P.rules.length (P.rules.flatMap ruleV)
theorem PolRd.below {w w' : World} {B : Nat} {s : Slp} {P : PolP} (h : PolRd w B s P) (hb : Below B w w') : PolRd w' B s P := ⟨h.1.below hb, h.2.1.below hb, h.2.2.1.below hb, h.2.2.2.1.below hb, h.2.2.2.2.below hb⟩
theorem PolRd.more {w : World} {B B' : Nat} {s : Slp} {P : PolP} (h : PolRd w B s P) (hB : B ≤ B') : PolRd w B' s P := ⟨h.1.more hB, h.2.1.more hB, h.2.2.1.more hB, h.2.2.2.1.more hB, h.2.2.2.2.more hB⟩
/-- Its words are words; it is of a size that may be. -/
def PolWd (P : PolP) : Prop := (∀ g ∈ P.grp, g < 18446744073709551616) ∧ (∀ x ∈ P.who, x.set < 18446744073709551616 ∧ x.ro < 18446744073709551616) ∧ (∀ r ∈ P.rules, RuleW r) ∧ P.ents.length ≤ 1000000 ∧ P.grp.length ≤ 1000000 ∧ P.who.length ≤ 1000000 ∧ P.up.length ≤ 1000000 ∧ P.rules.length ≤ 1000000
theorem len_ent (e : EntP) : (entV e).length = 4 := rfl
theorem len_who (x : WhoP) : (whoV x).length = 3 := rfl
theorem len_rule (r : RuleP) : (ruleV r).length = 12 := rfl
def UpTo {α : Type} (p : Nat → α → Prop) (l : List α) (k : Nat) : Prop := ∀ i a, i < k → l[i]? = some a → p i a
theorem UpTo.zero {α : Type} (p : Nat → α → Prop) (l : List α) : UpTo p l 0 := fun i a h => by omega
theorem UpTo.next {α : Type} {p : Nat → α → Prop} {l : List α} {k : Nat} (h : UpTo p l k) {a : α} (e : l[k]? = some a) (ha : p k a) : UpTo p l (k + 1) := fun i b hi eb => by
  rcases Nat.lt_or_ge i k with g | g
  · exact h i b g eb
  · obtain rfl : i = k := by omega
    rw [e] at eb
    cases eb
    exact ha
theorem UpTo.all {α : Type} {p : Nat → α → Prop} {l : List α} {k : Nat} (h : UpTo p l k) (hk : l.length ≤ k) : AllI_ p l := fun i a e => h i a (by have := (List.getElem?_eq_some_iff.1 e).1; omega) e
theorem get_at {α : Type} {l : List α} {k : Nat} (h : k < l.length) : ∃ a, l[k]? = some a := ⟨l[k], List.getElem?_eq_getElem h⟩
def RightPol (P : PolP) : Prop := ((1 ≤ P.ents.length ∧ P.ents.length ≤ 8) ∧ P.grp.length ≤ 4 ∧ (1 ≤ P.who.length ∧ P.who.length ≤ 8) ∧ rightL P.up = true ∧ P.rules.length ≤ 32) ∧
  AllI_ EntOk P.ents ∧ AllI_ (fun _ g => 0 < g ∧ g < 2 ^ P.ents.length) P.grp ∧ AllI_ (fun _ x => rightB x.set x.lv = true ∧ x.ro < 256) P.who ∧ AllI_ (fun _ r => RulP P.ents.length P.up.length P.grp.length r) P.rules
theorem rd_u {w : World} {B n k : Nat} {A : Option Addr} {l : List Nat} (h : RdR w B A n (l.map uV)) (hn : 0 < n) {a : Nat} (ha : l[k]? = some a) : ∃ g o, A = some ⟨g, o, none⟩ ∧ g < B ∧ w.cell? ⟨g, o + k, none⟩ = some (.int .u64 (a : Int)) := by
  obtain ⟨g, o, ea, hg, hc⟩ := h hn
  exact ⟨g, o, ea, hg, hc k _ (by rw [List.getElem?_map, ha]; rfl)⟩
theorem rd_who {w : World} {B n k : Nat} {A : Option Addr} {l : List WhoP} (h : RdR w B A n (l.flatMap whoV)) (hn : 0 < n) {x : WhoP} (hx : l[k]? = some x) : ∃ g o, A = some ⟨g, o, none⟩ ∧ g < B ∧ w.cell? ⟨g, o + k * 3, none⟩ = some (.int .u64 (x.set : Int)) ∧ w.cell? ⟨g, o + k * 3 + 1, none⟩ = some (.int .i64 x.lv) ∧ w.cell? ⟨g, o + k * 3 + 2, none⟩ = some (.int .u64 (x.ro : Int)) := by
  obtain ⟨g, o, ea, hg, hc⟩ := h hn
  refine ⟨g, o, ea, hg, ?_, ?_, ?_⟩
  · exact hc (k * 3 + 0) _ (flat_get whoV 3 len_who l k 0 x hx (by decide))
  · rw [Nat.add_assoc]; exact hc (k * 3 + 1) _ (flat_get whoV 3 len_who l k 1 x hx (by decide))
  · rw [Nat.add_assoc]; exact hc (k * 3 + 2) _ (flat_get whoV 3 len_who l k 2 x hx (by decide))
theorem rd_rule {w : World} {B n k : Nat} {A : Option Addr} {l : List RuleP} (h : RdR w B A n (l.flatMap ruleV)) (hn : 0 < n) {r : RuleP} (hr : l[k]? = some r) : ∃ g o, A = some ⟨g, o, none⟩ ∧ g < B ∧ ∀ j v, j < 12 → (ruleV r)[j]? = some v → w.cell? ⟨g, o + k * 12 + j, none⟩ = some v := by
  obtain ⟨g, o, ea, hg, hc⟩ := h hn
  refine ⟨g, o, ea, hg, fun j v hj hv => ?_⟩
  rw [Nat.add_assoc]
  exact hc (k * 12 + j) v ((flat_get ruleV 12 len_rule l k j r hr hj).trans hv)
theorem rd_ent {w : World} {B n k : Nat} {A : Option Addr} {l : List EntP} (h : RdR w B A n (l.flatMap entV)) (hn : 0 < n) {e : EntP} (he : l[k]? = some e) : ∃ g o, A = some ⟨g, o, none⟩ ∧ g < B ∧ w.cell? ⟨g, o + k * 4, none⟩ = some (.int .i64 e.lv) ∧ w.cell? ⟨g, o + k * 4 + 1, none⟩ = some (.int .i64 e.sc) ∧ w.cell? ⟨g, o + k * 4 + 2, none⟩ = some (.int .i64 e.pa) ∧ w.cell? ⟨g, o + k * 4 + 3, none⟩ = some (.int .i64 e.sh) := by
  obtain ⟨g, o, ea, hg, hc⟩ := h hn
  refine ⟨g, o, ea, hg, ?_, ?_, ?_, ?_⟩
  · exact hc (k * 4 + 0) _ (flat_get entV 4 len_ent l k 0 e he (by decide))
  · rw [Nat.add_assoc]; exact hc (k * 4 + 1) _ (flat_get entV 4 len_ent l k 1 e he (by decide))
  · rw [Nat.add_assoc]; exact hc (k * 4 + 2) _ (flat_get entV 4 len_ent l k 2 e he (by decide))
  · rw [Nat.add_assoc]; exact hc (k * 4 + 3) _ (flat_get entV 4 len_ent l k 3 e he (by decide))
def PolBl (w : World) (gp : Nat) (s : Slp) (ne ng nh nu nr : Nat) : Prop := Blk w gp 28 #[.slice s.Ae ne s.ce, .slice s.Ag ng s.cg, .slice s.Ah nh s.ch, .slice s.Au nu s.cu, .slice s.Ar nr s.cr]
theorem PolBl.cells {w : World} {gp ne ng nh nu nr : Nat} {s : Slp} (h : PolBl w gp s ne ng nh nu nr) : gp < w.heap.size ∧ w.cell? ⟨gp, 0, none⟩ = some (.slice s.Ae ne s.ce) ∧ w.cell? ⟨gp, 1, none⟩ = some (.slice s.Ag ng s.cg) ∧ w.cell? ⟨gp, 2, none⟩ = some (.slice s.Ah nh s.ch) ∧ w.cell? ⟨gp, 3, none⟩ = some (.slice s.Au nu s.cu) ∧ w.cell? ⟨gp, 4, none⟩ = some (.slice s.Ar nr s.cr) :=
  ⟨Blk.lt h, (Blk.cell h 0).trans rfl, (Blk.cell h 1).trans rfl, (Blk.cell h 2).trans rfl, (Blk.cell h 3).trans rfl, (Blk.cell h 4).trans rfl⟩
def RpolRel {α : Type} (W : World) (p : Nat → α → Prop) (l : List α) (i : Value) (wr : World) : Prop := ∃ k : Nat, k ≤ l.length ∧ i = .int .i64 k ∧ UpTo p l k ∧ Below W.heap.size W wr
end Go.Proofs.Ytakofbkbbmpfeab

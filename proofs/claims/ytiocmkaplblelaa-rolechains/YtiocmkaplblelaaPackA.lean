/- Slices of bytes that read as a list; rows of bytes of the call's own. -/
import Derived.Test.YtiocmkaplblelaaProg
import Derived.Test.YtiocmkaplblelaaChecked
import Derived.Test.YtiocmkaplblelaaPackP
import Derived.WalkKit
import Derived.Lib.Hide
import Derived.Lib.AppendStr
import Derived.Lib.UnsafeStr
import Derived.Laws.IdiomStrings
import Derived.Deep.Draws
namespace Go.Proofs.Ytiocmkaplblelaa
open Go.RowKit

/-- The slice with that address, length and room reads as the bytes l, below block B. -/
def Bs (w : World) (B : Nat) (A : Option Addr) (n c : Nat) (l : List UInt8) : Prop :=
  l.length = n ∧ n ≤ c ∧ (A = none → c = 0) ∧ (0 < n → ∃ g o, A = some ⟨g, o, none⟩ ∧ g < B ∧ ∀ j (h : j < l.length), w.cell? ⟨g, o + j, none⟩ = some (.int .u8 (l[j].toNat : Int)))

section
variable {w w' : World} {B B' n c : Nat} {A : Option Addr} {l : List UInt8}
theorem Bs.nil_ (w : World) (B : Nat) : Bs w B none 0 0 [] := ⟨rfl, Nat.le_refl _, fun _ => rfl, fun h => absurd h (by omega)⟩
theorem Bs.len (h : Bs w B A n c l) : l.length = n := h.1
theorem Bs.room (h : Bs w B A n c l) : n ≤ c := h.2.1
theorem Bs.at_ (h : Bs w B A n c l) {k : Nat} (hk : k < n) : ∃ g o, ∃ hl : k < l.length, A = some ⟨g, o, none⟩ ∧ g < B ∧ w.cell? ⟨g, o + k, none⟩ = some (.int .u8 (l[k].toNat : Int)) := by
  obtain ⟨g, o, e, hg, hc⟩ := h.2.2.2 (by omega)
  have hl : k < l.length := by have := h.1; omega
  exact ⟨g, o, hl, e, hg, hc k hl⟩
theorem Bs.keep (h : Bs w B A n c l) (hk : ∀ p : Addr, p.block < B → w'.cell? p = w.cell? p) : Bs w' B A n c l :=
  ⟨h.1, h.2.1, h.2.2.1, fun hn => by
    obtain ⟨g, o, e, hg, hc⟩ := h.2.2.2 hn
    exact ⟨g, o, e, hg, fun j hj => (hk ⟨g, o + j, none⟩ hg).trans (hc j hj)⟩⟩
theorem Bs.below (h : Bs w B A n c l) (hb : Below B w w') : Bs w' B A n c l := h.keep fun _ hp => hb.cell hp
theorem Bs.drewN (h : Bs w B A n c l) (k : Nat) : Bs (w.drewN k) B A n c l := h
theorem Bs.alloc (h : Bs w B A n c l) (hB : B ≤ w.heap.size) (o : Obj) : Bs (w.alloc o) B A n c l := h.keep fun p hp => World.cell?_alloc_lt w o p (by omega)
theorem Bs.more (h : Bs w B A n c l) (hB : B ≤ B') : Bs w B' A n c l :=
  ⟨h.1, h.2.1, h.2.2.1, fun hn => by
    obtain ⟨g, o, e, hg, hc⟩ := h.2.2.2 hn
    exact ⟨g, o, e, by omega, hc⟩⟩
/-- What stands from place k on, as the model cuts it. -/
theorem Bs.cut (h : Bs w B A n c l) {k : Nat} (hk : k ≤ n) : Bs w B (if c = k then A else A.map (·.add k)) (n - k) (c - k) (l.drop k) := by
  refine ⟨by rw [List.length_drop, h.1], by have := h.2.1; omega, fun e => ?_, fun hn => ?_⟩
  · have := h.2.2.1 (by cases A with | none => rfl | some a => (split at e <;> simp at e))
    omega
  obtain ⟨g, o, rfl, hg, hc⟩ := h.2.2.2 (by omega)
  have := h.2.1
  rw [if_neg (by omega)]
  refine ⟨g, o + k, by simp [Addr.add_lit], hg, fun j hj => ?_⟩
  have hj' : k + j < l.length := by rw [List.length_drop] at hj; omega
  rw [Nat.add_assoc, hc (k + j) hj', List.getElem_drop]
/-- The first k of them. -/
theorem Bs.head (h : Bs w B A n c l) {k : Nat} (hk : k ≤ n) : Bs w B A k c (l.take k) := by
  refine ⟨by rw [List.length_take, h.1]; omega, by have := h.2.1; omega, h.2.2.1, fun hn => ?_⟩
  obtain ⟨g, o, rfl, hg, hc⟩ := h.2.2.2 (by omega)
  refine ⟨g, o, rfl, hg, fun j hj => ?_⟩
  have hj' : j < l.length := by rw [List.length_take] at hj; omega
  rw [hc j hj', List.getElem_take]
end

/-- A row of bytes of the call's own: it lies at the head of block g, from B on. -/
def Own (w : World) (B g n c : Nat) (l : List UInt8) : Prop := l.length = n ∧ w.ownsRow B 5 1 (.slice (some ⟨g, 0, none⟩) n c) n (Lib.byteCells l)

theorem byteCells_get (l : List UInt8) (j : Nat) (h : j < l.length) : (Lib.byteCells l)[j]? = some (.int .u8 (l[j].toNat : Int)) := by
  unfold Lib.byteCells
  rw [List.getElem?_map, List.getElem?_eq_getElem h]
  rfl
section
variable {w w' : World} {B g n c : Nat} {l : List UInt8}
theorem Own.len (h : Own w B g n c l) : l.length = n := h.1
theorem Own.ge (h : Own w B g n c l) : B ≤ g := (h.2.lt g rfl).1
theorem Own.lt (h : Own w B g n c l) : g < w.heap.size := (h.2.lt g rfl).2
theorem Own.room (h : Own w B g n c l) : n ≤ c := by
  rcases h.2.2 with ⟨e, _⟩ | ⟨g', c', cur, e, _, _, hn, _⟩
  · cases e
  · injection e with _ _ e
    omega
theorem Own.cmax (h : Own w B g n c l) : c ≤ maxLen := by
  rcases h.2.2 with ⟨e, _⟩ | ⟨g', c', cur, e, _, _, _, hm, _⟩
  · cases e
  · injection e with _ _ e
    omega
theorem Own.bs (h : Own w B g n c l) : Bs w w.heap.size (some ⟨g, 0, none⟩) n c l := by
  refine ⟨h.1, h.room, (fun e => by cases e), fun _ => ⟨g, 0, rfl, h.lt, fun j hj => ?_⟩⟩
  have := h.2.cells (g := g) rfl j _ (byteCells_get l j hj)
  rwa [Addr.add_lit] at this
theorem Own.below (h : Own w B g n c l) {C : Nat} (hb : Below C w w') (hC : g < C) : Own w' B g n c l := by
  refine ⟨h.1, h.2.1, ?_⟩
  rcases h.2.2 with ⟨e, _⟩ | ⟨g', c', cur, e, hB, hg, rest⟩
  · cases e
  · have hgg : g = g' := by injection e with e; injection e with e; injection e
    subst hgg
    exact .inr ⟨g, c', cur, e, hB, (hb.block g hC).trans hg, rest⟩
end
/-- What an append takes off it. -/
theorem Bs.news {w : World} {B n c : Nat} {A : Option Addr} {l : List UInt8} (h : Bs w B A n c l) : ∀ ad, A = some ad → ∀ j u, (Lib.byteCells l)[j]? = some u → w.cell? (ad.add j) = some u := by
  intro ad e j u hu
  have hj : j < l.length := by
    have := (List.getElem?_eq_some_iff.1 hu).1
    rwa [Lib.byteCells_length] at this
  obtain ⟨g, o, e', _, hc⟩ := h.2.2.2 (by have := h.1; omega)
  rw [e'] at e
  cases e
  rw [byteCells_get l j hj] at hu
  cases hu
  rw [Addr.add_lit]
  exact hc j hj
theorem byteCells_ones (l : List UInt8) : ∀ u ∈ Lib.byteCells l, u.oneCell' = true := by
  intro u hu
  unfold Lib.byteCells at hu
  obtain ⟨_, _, rfl⟩ := List.mem_map.1 hu
  rfl
theorem Try.i8 : (Try.prog.info? 5).map (fun i => (i.zero, i.size, i.bytes)) = some (some (.int .u8 0), 1, 1) := by kernel_rfl
end Go.Proofs.Ytiocmkaplblelaa

/- Several blocks that are known whole, and what was there before. -/
import Derived.Test.YtakofbkbbmpfeaaBlk
namespace Go.Proofs.Ytakofbkbbmpfeaa
open Go.RowKit

/-- Nothing of w0 has turned, and each listed block holds just these cells. -/
def HB (w0 : World) (bs : List (Nat × TypeId × Array Value)) (w : World) : Prop := Below w0.heap.size w0 w ∧ ∀ b ∈ bs, Blk w b.1 b.2.1 b.2.2
theorem bel_alloc {W w : World} (h : Below W.heap.size W w) (o : Obj) : Below W.heap.size W (w.alloc o) := h.alloc h.size o
section
variable {w0 w w' : World} {bs : List (Nat × TypeId × Array Value)}
theorem HB.bel (h : HB w0 bs w) : Below w0.heap.size w0 w := h.1
theorem HB.start {w0 w : World} (h : Below w0.heap.size w0 w) : HB w0 [] w := ⟨h, fun _ hb => absurd hb (by simp)⟩
theorem HB.below (h : HB w0 bs w) (hb : Below w.heap.size w w') : HB w0 bs w' := ⟨h.1.trans (hb.mono h.1.size), fun b hm => (h.2 b hm).below hb (h.2 b hm).lt⟩
theorem HB.alloc (h : HB w0 bs w) (o : Obj) : HB w0 bs (w.alloc o) := ⟨bel_alloc h.1 o, fun b hm => (h.2 b hm).alloc o⟩
theorem HB.drew (h : HB w0 bs w) : HB w0 bs w.drew := ⟨h.1.drew, fun b hm => (h.2 b hm).drew⟩
theorem HB.push (h : HB w0 bs w) (cs : Array Value) (t : TypeId) : HB w0 ((w.heap.size, t, cs) :: bs) (w.alloc (.cells cs t)) :=
  ⟨bel_alloc h.1 _, fun b hm => by
    rcases List.mem_cons.1 hm with rfl | hm
    · exact Blk.new w t cs
    · exact (h.2 b hm).alloc _⟩
theorem Blk.ne_ {g g' : Nat} {t t' : TypeId} {cs cs' : Array Value} (h : Blk w g t cs) (h' : Blk w g' t' cs') (hne : t ≠ t') : g ≠ g' := by
  rintro rfl
  unfold Blk at h h'
  rw [h] at h'
  injection h' with h'
  injection h' with _ ht
  exact hne ht
theorem HB.set_ (h : HB w0 bs w) {p : Addr} (hp : w0.heap.size ≤ p.block) (hne : ∀ b ∈ bs, b.1 ≠ p.block) (v : Value) : HB w0 bs (w.setCell p v) :=
  ⟨h.1.setCell hp v, fun b hm => (h.2 b hm).far (hne b hm) v⟩
/-- Four words are stored into a block that is none of the listed ones: it is listed now. -/
theorem HB.set4 {g : Nat} {t : TypeId} {a b c d a' b' c' d' : Value} (h : HB w0 bs w) (B : Blk w g t #[a, b, c, d]) (hg : w0.heap.size ≤ g) (hne : ∀ b ∈ bs, b.1 ≠ g) :
    HB w0 ((g, t, #[a', b', c', d']) :: bs) ((((w.setCell ⟨g, 0, none⟩ a').setCell ⟨g, 1, none⟩ b').setCell ⟨g, 2, none⟩ c').setCell ⟨g, 3, none⟩ d') := by
  have H := (((h.set_ (p := ⟨g, 0, none⟩) hg hne a').set_ (p := ⟨g, 1, none⟩) hg hne b').set_ (p := ⟨g, 2, none⟩) hg hne c').set_ (p := ⟨g, 3, none⟩) hg hne d'
  have B4 := (((B.set_ 0 a').set_ 1 b').set_ 2 c').set_ 3 d'
  refine ⟨H.1, fun x hx => ?_⟩
  rcases List.mem_cons.1 hx with rfl | hx
  · exact B4
  · exact H.2 x hx
theorem HB.sub {bs' : List (Nat × TypeId × Array Value)} (h : HB w0 bs w) (hs : ∀ b ∈ bs', b ∈ bs) : HB w0 bs' w := ⟨h.1, fun b hm => h.2 b (hs b hm)⟩
theorem HB.blk {g : Nat} {t : TypeId} {cs : Array Value} (h : HB w0 bs w) (hm : (g, t, cs) ∈ bs) : Blk w g t cs := h.2 _ hm
theorem HB.two {g : Nat} {t : TypeId} {a b : Value} (h : HB w0 bs w) (hm : (g, t, #[a, b]) ∈ bs) : g < w.heap.size ∧ w.cell? ⟨g, 0, none⟩ = some a ∧ w.cell? ⟨g, 1, none⟩ = some b := by
  have x := h.blk hm
  have x0 := x.cell 0
  have x1 := x.cell 1
  simp at x0 x1
  exact ⟨x.lt, x0, x1⟩
theorem HB.four {g : Nat} {t : TypeId} {a b c d : Value} (h : HB w0 bs w) (hm : (g, t, #[a, b, c, d]) ∈ bs) : g < w.heap.size ∧ w.cell? ⟨g, 0, none⟩ = some a ∧ w.cell? ⟨g, 1, none⟩ = some b ∧ w.cell? ⟨g, 2, none⟩ = some c ∧ w.cell? ⟨g, 3, none⟩ = some d := by
  have x := h.blk hm
  have x0 := x.cell 0
  have x1 := x.cell 1
  have x2 := x.cell 2
  have x3 := x.cell 3
  simp at x0 x1 x2 x3
  exact ⟨x.lt, x0, x1, x2, x3⟩
theorem keepB {P : Prop} (hb : Below w.heap.size w w') (h : HB w0 bs w ∧ P) : HB w0 bs w' := HB.below h.1 hb
theorem keepBA {P : Prop} (h : HB w0 bs w ∧ P) (o : Obj) : HB w0 bs (w.alloc o) := HB.alloc h.1 o
theorem sizeB {P : Prop} (h : HB w0 bs w ∧ P) : w0.heap.size ≤ w.heap.size := h.1.1.size
theorem belB {P : Prop} (h : HB w0 bs w ∧ P) : Below w0.heap.size w0 w := h.1.1
theorem neB {g : Nat} {t : TypeId} {cs : Array Value} (h : HB w0 bs w) (B : Blk w g t cs) (ht : ∀ b ∈ bs, b.2.1 ≠ t) : ∀ b ∈ bs, b.1 ≠ g :=
  fun b hb => Blk.ne_ (h.2 b hb) B (ht b hb)
end
end Go.Proofs.Ytakofbkbbmpfeaa

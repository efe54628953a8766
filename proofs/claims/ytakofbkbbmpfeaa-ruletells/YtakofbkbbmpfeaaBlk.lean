/- A block of memory that is known whole. -/
import Derived.Test.YtakofbkbbmpfeaaRows
import Derived.WalkKit
import Derived.Below
import Derived.Laws.OwnMore
import Derived.Deep.Draws
import Derived.Laws.Rows
namespace Go.Proofs.Ytakofbkbbmpfeaa
open Go.RowKit
def Blk (w : World) (g : Nat) (t : TypeId) (cs : Array Value) : Prop := w.heap[g]? = some (.cells cs t (0, 0))
section
variable {w w' : World} {g : Nat} {t : TypeId} {cs : Array Value}
theorem Blk.lt (h : Blk w g t cs) : g < w.heap.size := by
  rcases Nat.lt_or_ge g w.heap.size with hlt | hge
  · exact hlt
  · unfold Blk at h; rw [Array.getElem?_eq_none hge] at h; cases h
theorem Blk.cell (h : Blk w g t cs) (i : Nat) : w.cell? ⟨g, i, none⟩ = cs[i]? := cell_of_row w g i cs t (0, 0) h
theorem Blk.frozen (h : Blk w g t cs) (i : Nat) : w.frozen? ⟨g, i, none⟩ = false := by
  unfold Blk at h
  simp [World.frozen?, h]
theorem Blk.new (w : World) (t : TypeId) (cs : Array Value) : Blk (w.alloc (.cells cs t)) w.heap.size t cs := heap_alloc_new w _
theorem Blk.drew (h : Blk w g t cs) : Blk w.drew g t cs := h
theorem Blk.drewN (h : Blk w g t cs) (n : Nat) : Blk (w.drewN n) g t cs := h
theorem Blk.alloc (h : Blk w g t cs) (o : Obj) : Blk (w.alloc o) g t cs := (Below.heap_alloc w o g h.lt).trans h
theorem Blk.set_ (h : Blk w g t cs) (i : Nat) (u : Value) : Blk (w.setCell ⟨g, i, none⟩ u) g t (cs.setIfInBounds i u) := by
  unfold Blk at h ⊢
  simp [World.setCell, Array.getElem?_modify, h]
theorem Blk.far (h : Blk w g t cs) {p : Addr} (hp : g ≠ p.block) (u : Value) : Blk (w.setCell p u) g t cs := (Below.heap_setCell w p u g hp).trans h
theorem Blk.below {B : Nat} (h : Blk w g t cs) (hb : Below B w w') (hg : g < B) : Blk w' g t cs := (hb.block g hg).trans h
theorem hold22 {w0 w : World} {g h t u : Nat} {a b c d : Value} (x : Blk w g t #[a, b]) (y : Blk w h u #[c, d]) (z : Below w0.heap.size w0 w) :
    Blk w g t #[a, b] ∧ Blk w h u #[c, d] ∧ Below w0.heap.size w0 w ∧ w.cell? ⟨g, 0, none⟩ = some a ∧ w.cell? ⟨g, 1, none⟩ = some b ∧ w.cell? ⟨h, 0, none⟩ = some c ∧ w.cell? ⟨h, 1, none⟩ = some d := by
  have x0 := x.cell 0
  have x1 := x.cell 1
  have y0 := y.cell 0
  have y1 := y.cell 1
  simp at x0 x1 y0 y1
  exact ⟨x, y, z, x0, x1, y0, y1⟩
theorem hold22_bel {w0 w w' : World} {g h t u : Nat} {a b c d : Value} (hb : Below w.heap.size w w') (H : Blk w g t #[a, b] ∧ Blk w h u #[c, d] ∧ Below w0.heap.size w0 w ∧ w.cell? ⟨g, 0, none⟩ = some a ∧ w.cell? ⟨g, 1, none⟩ = some b ∧ w.cell? ⟨h, 0, none⟩ = some c ∧ w.cell? ⟨h, 1, none⟩ = some d) :
    Blk w' g t #[a, b] ∧ Blk w' h u #[c, d] ∧ Below w0.heap.size w0 w' ∧ w'.cell? ⟨g, 0, none⟩ = some a ∧ w'.cell? ⟨g, 1, none⟩ = some b ∧ w'.cell? ⟨h, 0, none⟩ = some c ∧ w'.cell? ⟨h, 1, none⟩ = some d :=
  hold22 (H.1.below hb H.1.lt) (H.2.1.below hb H.2.1.lt) (H.2.2.1.trans (hb.mono H.2.2.1.size))
theorem cells22 {w : World} {g h t u : Nat} {a b c d : Value} (x : Blk w g t #[a, b]) (y : Blk w h u #[c, d]) :
    w.cell? ⟨g, 0, none⟩ = some a ∧ w.cell? ⟨g, 1, none⟩ = some b ∧ w.cell? ⟨h, 0, none⟩ = some c ∧ w.cell? ⟨h, 1, none⟩ = some d := by
  have x0 := x.cell 0
  have x1 := x.cell 1
  have y0 := y.cell 0
  have y1 := y.cell 1
  simp at x0 x1 y0 y1
  exact ⟨x0, x1, y0, y1⟩
end
end Go.Proofs.Ytakofbkbbmpfeaa

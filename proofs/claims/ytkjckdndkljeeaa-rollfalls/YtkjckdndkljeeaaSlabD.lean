/- Package slab: the calls as the statements meet them; the chapter's example; SlabKnown. -/
import Derived.Test.YtkjckdndkljeeaaSlabC
namespace Go.Proofs.Ytkjckdndkljeeaa
open Go.RowKit
section
variable {w w1 w2 w' : World} {g d n : Nat} {l : List UInt8} {k left torn : Int} {dead cut : Bool}
theorem Sl.lt (h : Sl w g d n l k dead cut left torn) : g < w.heap.size ∧ d < w.heap.size := ⟨h.1.lt, Blk.lt h.2.1⟩
theorem Sl.alloc (h : Sl w g d n l k dead cut left torn) (o : Obj) : Sl (w.alloc o) g d n l k dead cut left torn := h.below ((Below.refl _ _).alloc (Nat.le_refl _) o)
theorem Row.alloc (h : Row w g l) (o : Obj) : Row (w.alloc o) g l := Blk.alloc h o
theorem Row.below (h : Row w g l) (hb : Below w.heap.size w w') : Row w' g l := Blk.below h hb (Blk.lt h)
theorem Row.but {ex : List Nat} (h : Row w g l) (hb : But ex w w') (hx : g ∉ ex) : Row w' g l := Blk.but h hb hx
theorem row_lit (w : World) {cs : Array Value} (b : List UInt8) (h : cs = (Lib.byteCells b).toArray) : Row (w.alloc (.cells cs 5)) w.heap.size b := by
  subst h
  exact Blk.new _ _ _
theorem bs_lit (w : World) {cs : Array Value} (b : List UInt8) (h : cs = (Lib.byteCells b).toArray) {m : Nat} (hm : b.length = m) : Bs (w.alloc (.cells cs 5)) (w.alloc (.cells cs 5)).heap.size (some ⟨w.heap.size, 0, none⟩) m m b := (row_lit w b h).bs hm
/-- Behind a call that wrote to the slab's own two blocks alone. -/
theorem bel_but {B : Nat} {w1 w2 : World} (hb : Below B w w1) (ht : But [g, d] w1 w2) (hB : B ≤ w1.heap.size) (hg : B ≤ g) (hd : B ≤ d) : Below B w w2 := hb.trans (ht.below hB (by simp; omega))
theorem bel_but1 {B : Nat} {w1 w2 : World} (hb : Below B w w1) (ht : But [g] w1 w2) (hB : B ≤ w1.heap.size) (hg : B ≤ g) : Below B w w2 := hb.trans (ht.below hB (by simp; omega))
theorem bel_al {w w1 : World} (hb : Below w.heap.size w w1) (o : Obj) : Below w.heap.size w (w1.alloc o) := hb.alloc hb.size o
theorem bel_size {B : Nat} (hb : Below B w w1) : w.heap.size ≤ w1.heap.size := hb.size
theorem new_e (n : Int) (m : Nat) (w : World) (hm : min (max n 1) 65536 = (m : Int)) :
    Calls Try.prog 8 #[.int .i64 n] w fun e w' => ∃ g d, e = .returned (.pointer (some ⟨g, 0, none⟩)) ∧ Sl w' g d m (List.replicate m 0) 0 false false 0 0 ∧ w.heap.size ≤ g ∧ w.heap.size ≤ d ∧ Below w.heap.size w w' :=
  (new_c n m w hm).mono fun e w' ⟨he, hs, hb⟩ => ⟨_, _, he, hs, by omega, Nat.le_refl _, hb⟩
theorem read_e (a m : Nat) (x y : Int) (r : List UInt8) (h : Sl w g d n l k dead cut left torn) (hx : x = (a : Int)) (hy : y = (m : Int)) (hd : dead = false) (hm : a + m ≤ n) (hr : (l.drop a).take m = r) : Calls Try.prog 15 #[.pointer (some ⟨g, 0, none⟩), .int .i64 x, .int .i64 y] w fun e w' => ∃ q, e = .returned (.tuple #[.slice (some ⟨q, 0, none⟩) m m, .bool true]) ∧ Row w' q r ∧ w.heap.size ≤ q ∧ Below w.heap.size w w' := by
  subst hr
  exact (read_yes a m x y h hx hy hd hm).mono fun e w' ⟨he, hs, hb⟩ => ⟨_, he, hs, Nat.le_refl _, hb⟩
end
end Go.Proofs.Ytkjckdndkljeeaa

/- A result's four cells beside what is held. -/
import Derived.Test.YtkaflkofffgndaaDoorHold
import Derived.Test.YtkaflkofffgndaaDoorOrd
namespace Go.Proofs.YtkaflkofffgndaaDoor
open Go.RowKit
def QS (w : World) (gz : Nat) (L : List (Nat × TypeId × Array Value)) (V : World) : Prop := HB w L V ∧ Blk V gz 27 #[.bool false, .int .u64 0, .int .u64 0, .int .i64 0]
theorem QS.below {w V V' : World} {gz : Nat} {L : List (Nat × TypeId × Array Value)} (h : QS w gz L V) (hb : Below V.heap.size V V') : QS w gz L V' := ⟨h.1.below hb, h.2.below hb h.2.lt⟩
theorem QS.drew {w V : World} {gz : Nat} {L : List (Nat × TypeId × Array Value)} (h : QS w gz L V) : QS w gz L V.drew := ⟨h.1.drew, h.2.drew⟩
theorem QS.one (w : World) (n : Bool) (a b s : Int) : QS w (w.heap.size + 1) [(w.heap.size, 27, #[.bool n, .int .u64 a, .int .u64 b, .int .i64 s])] ((w.alloc (.cells #[.bool n, .int .u64 a, .int .u64 b, .int .i64 s] 27)).alloc (.cells #[.bool false, .int .u64 0, .int .u64 0, .int .i64 0] 27)) := by
  have h := (HB.start (Below.refl _ w)).push #[.bool n, .int .u64 a, .int .u64 b, .int .i64 s] 27
  refine ⟨h.alloc _, ?_⟩
  have := Blk.new (w.alloc (.cells #[.bool n, .int .u64 a, .int .u64 b, .int .i64 s] 27)) 27 #[.bool false, .int .u64 0, .int .u64 0, .int .i64 0]
  simpa using this
theorem QS.two (w : World) (n : Bool) (a b s : Int) (n' : Bool) (a' b' s' : Int) : QS w (w.heap.size + 1 + 1) [(w.heap.size + 1, 27, #[.bool n', .int .u64 a', .int .u64 b', .int .i64 s']), (w.heap.size, 27, #[.bool n, .int .u64 a, .int .u64 b, .int .i64 s])] (((w.alloc (.cells #[.bool n, .int .u64 a, .int .u64 b, .int .i64 s] 27)).alloc (.cells #[.bool n', .int .u64 a', .int .u64 b', .int .i64 s'] 27)).alloc (.cells #[.bool false, .int .u64 0, .int .u64 0, .int .i64 0] 27)) := by
  have h := ((HB.start (Below.refl _ w)).push #[.bool n, .int .u64 a, .int .u64 b, .int .i64 s] 27).push #[.bool n', .int .u64 a', .int .u64 b', .int .i64 s'] 27
  have h2 := h.alloc (.cells #[.bool false, .int .u64 0, .int .u64 0, .int .i64 0] 27)
  have := Blk.new ((w.alloc (.cells #[.bool n, .int .u64 a, .int .u64 b, .int .i64 s] 27)).alloc (.cells #[.bool n', .int .u64 a', .int .u64 b', .int .i64 s'] 27)) 27 #[.bool false, .int .u64 0, .int .u64 0, .int .i64 0]
  exact ⟨by simpa using h2, by simpa using this⟩
theorem blk_c4 {w : World} {g : Nat} {t : TypeId} {a b c d : Value} (h : Blk w g t #[a, b, c, d]) : g < w.heap.size ∧ (w.cell? ⟨g, 0, none⟩ = some a ∧ w.cell? ⟨g, 1, none⟩ = some b ∧ w.cell? ⟨g, 2, none⟩ = some c ∧ w.cell? ⟨g, 3, none⟩ = some d) ∧ w.frozen? ⟨g, 0, none⟩ = false ∧ w.frozen? ⟨g, 1, none⟩ = false ∧ w.frozen? ⟨g, 2, none⟩ = false ∧ w.frozen? ⟨g, 3, none⟩ = false := by
  have x0 := h.cell 0
  have x1 := h.cell 1
  have x2 := h.cell 2
  have x3 := h.cell 3
  simp at x0 x1 x2 x3
  exact ⟨h.lt, ⟨x0, x1, x2, x3⟩, h.frozen 0, h.frozen 1, h.frozen 2, h.frozen 3⟩
theorem QS.push {w V : World} {gz : Nat} {L : List (Nat × TypeId × Array Value)} (h : QS w gz L V) (cs : Array Value) (t : TypeId) : QS w gz ((V.heap.size, t, cs) :: L) (V.alloc (.cells cs t)) := ⟨h.1.push cs t, h.2.alloc _⟩
theorem QS.sub {w V : World} {gz : Nat} {L L' : List (Nat × TypeId × Array Value)} (h : QS w gz L V) (hs : ∀ b ∈ L', b ∈ L) : QS w gz L' V := ⟨h.1.sub hs, h.2⟩
theorem QS.set2 {w V : World} {gz g : Nat} {t : TypeId} {a b a' b' : Value} {L : List (Nat × TypeId × Array Value)} (h : QS w gz L V) (B : Blk V g t #[a, b]) (hg : w.heap.size ≤ g) (hne : ∀ x ∈ L, x.1 ≠ g) (hz : gz ≠ g) : QS w gz ((g, t, #[a', b']) :: L) ((V.setCell ⟨g, 0, none⟩ a').setCell ⟨g, 1, none⟩ b') := by
  have H := (h.1.set_ (p := ⟨g, 0, none⟩) hg hne a').set_ (p := ⟨g, 1, none⟩) hg hne b'
  have B2 := (B.set_ 0 a').set_ 1 b'
  refine ⟨⟨H.1, fun x hx => ?_⟩, (h.2.far (p := ⟨g, 0, none⟩) hz _).far (p := ⟨g, 1, none⟩) hz _⟩
  rcases List.mem_cons.1 hx with rfl | hx
  · exact B2
  · exact H.2 x hx
end Go.Proofs.YtkaflkofffgndaaDoor

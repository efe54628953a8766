/- dec: Sub. -/
import Derived.Test.YtakofbkbbmpfeaaDecF
import Derived.Test.YtakofbkbbmpfeaaHold
namespace Go.Proofs.Ytakofbkbbmpfeaa
open Go.RowKit
theorem decIs_one {n n' : Bool} {a b a' b' z : Int} (h : DecIs n a b z) (h' : DecIs n' a' b' z) : n = n' ∧ a = a' ∧ b = b' := by
  obtain ⟨e, h1, h2, h3⟩ := h
  obtain ⟨e', h1', h2', h3'⟩ := h'
  refine ⟨e.trans e'.symm, ?_⟩
  rw [← h3'] at h3
  unfold U64 at *; unfold v2 at h3
  omega
theorem sign_v (n : Bool) (a b s z c : Int) (w : World) (h : DecIs n a b z) (hz : z.natAbs < 1000000000000000000000000000000) (h0 : 0 ≤ s) (h9 : s ≤ 9) (hc : z.sign = c) :
    Calls Try.prog 68 #[.agg #[.bool n, .int .u64 a, .int .u64 b, .int .i64 s]] w (Ret w (· = .int .i64 c)) := by
  subst hc
  exact sign_d n a b s z w h hz h0 h9
/-- A block of four cells, whatever they hold. -/
def Any4 (w : World) (g : Nat) (t : TypeId) : Prop := ∃ a b c d, Blk w g t #[a, b, c, d]
theorem Any4.drew {w : World} {g : Nat} {t : TypeId} (h : Any4 w g t) : Any4 w.drew g t := h
theorem Any4.below {w w' : World} {g : Nat} {t : TypeId} (h : Any4 w g t) (hb : Below w.heap.size w w') : Any4 w' g t := by
  obtain ⟨a, b, c, d, B⟩ := h
  exact ⟨a, b, c, d, B.below hb B.lt⟩
theorem Any4.alloc {w : World} {g : Nat} {t : TypeId} (h : Any4 w g t) (o : Obj) : Any4 (w.alloc o) g t := by
  obtain ⟨a, b, c, d, B⟩ := h
  exact ⟨a, b, c, d, B.alloc o⟩
theorem Any4.set4 {w : World} {g : Nat} {t : TypeId} {a' b' c' d' : Value} (h : Any4 w g t) : Any4 ((((w.setCell ⟨g, 0, none⟩ a').setCell ⟨g, 1, none⟩ b').setCell ⟨g, 2, none⟩ c').setCell ⟨g, 3, none⟩ d') g t := by
  obtain ⟨a, b, c, d, B⟩ := h
  exact ⟨a', b', c', d', by have := (((B.set_ 0 a').set_ 1 b').set_ 2 c').set_ 3 d'; simpa using this⟩
theorem Any4.facts {w : World} {g : Nat} {t : TypeId} (h : Any4 w g t) : g < w.heap.size ∧ ∃ a b c d, w.cell? ⟨g, 0, none⟩ = some a ∧ w.cell? ⟨g, 1, none⟩ = some b ∧ w.cell? ⟨g, 2, none⟩ = some c ∧ w.cell? ⟨g, 3, none⟩ = some d ∧ w.frozen? ⟨g, 0, none⟩ = false ∧ w.frozen? ⟨g, 1, none⟩ = false ∧ w.frozen? ⟨g, 2, none⟩ = false ∧ w.frozen? ⟨g, 3, none⟩ = false := by
  obtain ⟨a, b, c, d, B⟩ := h
  exact ⟨B.lt, a, b, c, d, by simpa using B.cell 0, by simpa using B.cell 1, by simpa using B.cell 2, by simpa using B.cell 3, B.frozen 0, B.frozen 1, B.frozen 2, B.frozen 3⟩
def Sub2 (w0 : World) (g : Nat) (n : Bool) (a b s : Int) (n' : Bool) (a' b' s' : Int) (w : World) : Prop := HB w0 [(g + 1, 49, #[.bool n', .int .u64 a', .int .u64 b', .int .i64 s']), (g, 49, #[.bool n, .int .u64 a, .int .u64 b, .int .i64 s])] w
theorem sub2_mk {w0 w : World} {g : Nat} {n : Bool} {a b s : Int} {n' : Bool} {a' b' s' : Int} (h : Sub2 w0 g n a b s n' a' b' s' w) (A : Any4 w (g + 1 + 1) 49) : Sub2 w0 g n a b s n' a' b' s' w ∧ Any4 w (g + 1 + 1) 49 ∧ (w.cell? ⟨g, 0, none⟩ = some (.bool n) ∧ w.cell? ⟨g, 1, none⟩ = some (.int .u64 a) ∧ w.cell? ⟨g, 2, none⟩ = some (.int .u64 b) ∧ w.cell? ⟨g, 3, none⟩ = some (.int .i64 s)) ∧ (w.cell? ⟨g + 1, 0, none⟩ = some (.bool n') ∧ w.cell? ⟨g + 1, 1, none⟩ = some (.int .u64 a') ∧ w.cell? ⟨g + 1, 2, none⟩ = some (.int .u64 b') ∧ w.cell? ⟨g + 1, 3, none⟩ = some (.int .i64 s')) :=
  ⟨h, A, (HB.dec (t := 49) h (by simp)).2, (HB.dec (t := 49) h (by simp)).2⟩
theorem sub2_keep {w0 w w' : World} {g : Nat} {n : Bool} {a b s : Int} {n' : Bool} {a' b' s' : Int} {P : Prop} (hb : Below w.heap.size w w') (h : Sub2 w0 g n a b s n' a' b' s' w ∧ Any4 w (g + 1 + 1) 49 ∧ P) : Sub2 w0 g n a b s n' a' b' s' w' ∧ Any4 w' (g + 1 + 1) 49 := ⟨HB.below h.1 hb, h.2.1.below hb⟩
theorem sub2_set {w0 w : World} {g : Nat} {n : Bool} {a b s : Int} {n' : Bool} {a' b' s' : Int} {p q r t : Value} (hg : w0.heap.size ≤ g) (h : Sub2 w0 g n a b s n' a' b' s' w ∧ Any4 w (g + 1 + 1) 49) : Sub2 w0 g n a b s n' a' b' s' ((((w.setCell ⟨g + 1 + 1, 0, none⟩ p).setCell ⟨g + 1 + 1, 1, none⟩ q).setCell ⟨g + 1 + 1, 2, none⟩ r).setCell ⟨g + 1 + 1, 3, none⟩ t) ∧ Any4 ((((w.setCell ⟨g + 1 + 1, 0, none⟩ p).setCell ⟨g + 1 + 1, 1, none⟩ q).setCell ⟨g + 1 + 1, 2, none⟩ r).setCell ⟨g + 1 + 1, 3, none⟩ t) (g + 1 + 1) 49 := by
  have hp : w0.heap.size ≤ g + 1 + 1 := by omega
  have hne : ∀ b0 ∈ [(g + 1, (49 : TypeId), (#[.bool n', .int .u64 a', .int .u64 b', .int .i64 s'] : Array Value)), (g, 49, #[.bool n, .int .u64 a, .int .u64 b, .int .i64 s])], b0.1 ≠ g + 1 + 1 := by
    intro b0 hb
    simp at hb
    rcases hb with rfl | rfl <;> simp <;> omega
  exact ⟨HB.set_ (HB.set_ (HB.set_ (HB.set_ h.1 (p := ⟨g + 1 + 1, 0, none⟩) hp hne _) (p := ⟨g + 1 + 1, 1, none⟩) hp hne _) (p := ⟨g + 1 + 1, 2, none⟩) hp hne _) (p := ⟨g + 1 + 1, 3, none⟩) hp hne _, h.2.set4⟩
end Go.Proofs.Ytakofbkbbmpfeaa

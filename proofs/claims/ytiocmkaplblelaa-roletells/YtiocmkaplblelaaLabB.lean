/- Package label: Members; the same of pyxref4, with has. -/
import Derived.Test.YtiocmkaplblelaaLabA
import Derived.OwnWalk
namespace Go.Proofs.Ytiocmkaplblelaa
open Go.RowKit
theorem info_int : (Try.prog.info? 3).map (fun i => (i.zero, i.size, i.bytes)) = some (some (.int .i64 0), 1, 8) := by kernel_rfl
theorem own_base {w : World} {base : Nat} {e : TypeId} {size n : Nat} {v : Value} {xs : List Value} (h : w.ownsRow base e size v n xs) : ∀ g, v.ownBlock = some g → base ≤ g := by
  intro g hg
  rcases h.2 with ⟨rfl, _⟩ | ⟨g', cap, cur, rfl, hb, _⟩
  · simp [Value.ownBlock] at hg
  · simp [Value.ownBlock] at hg; omega
def mkI (k : Nat) : Value := .int .i64 k
/-- A slice of ints that reads as L (nil reads as none). -/
def NsA (w : World) (A : Option Addr) (L : List Nat) : Prop := ∀ j, ∀ hj : j < L.length, ∃ g cur, A = some ⟨g, 0, none⟩ ∧ w.heap[g]? = some (.cells cur 3 (0, 0)) ∧ w.cell? ⟨g, j, none⟩ = some (.int .i64 (L[j] : Int))
theorem NsA.lt {w : World} {A : Option Addr} {L : List Nat} (h : NsA w A L) (j : Nat) (hj : j < L.length) : ∃ g, A = some ⟨g, 0, none⟩ ∧ g < w.heap.size ∧ w.cell? ⟨g, j, none⟩ = some (.int .i64 (L[j] : Int)) := by
  obtain ⟨g, cur, e, hh, hc⟩ := h j hj
  refine ⟨g, e, ?_, hc⟩
  rcases Nat.lt_or_ge g w.heap.size with c | c
  · exact c
  · rw [Array.getElem?_eq_none c] at hh; cases hh
theorem NsA.below {w w' : World} {A : Option Addr} {L : List Nat} (h : NsA w A L) (hb : Below w.heap.size w w') : NsA w' A L := fun j hj => by
  obtain ⟨g, cur, e, hh, hc⟩ := h j hj
  obtain ⟨g', e', hg, _⟩ := h.lt j hj
  rw [e] at e'
  injection e' with e'
  injection e' with e'
  subst e'
  exact ⟨g, cur, e, by rw [hb.block g hg]; exact hh, by rw [hb.cell hg]; exact hc⟩
theorem NsA.drew {w : World} {A : Option Addr} {L : List Nat} (h : NsA w A L) : NsA w.drew A L := h
theorem NsA.alloc {w : World} {A : Option Addr} {L : List Nat} (h : NsA w A L) (o : Obj) : NsA (w.alloc o) A L := h.below (bel_alloc (Below.refl _ _) o)
theorem ns_own {w : World} {base : Nat} {v : Value} {L : List Nat} (h : w.ownsRow base 3 1 v L.length (L.map mkI)) : ∃ A c, v = .slice A L.length c ∧ NsA w A L := by
  rcases h.2 with ⟨rfl, h0⟩ | ⟨g, cap, cur, rfl, hb, hh, hc, _, _, ht⟩
  · exact ⟨none, 0, by rw [h0], fun j hj => by omega⟩
  · refine ⟨_, cap, rfl, fun j hj => ⟨g, cur, rfl, hh, ?_⟩⟩
    have := h.cells (g := g) rfl j (mkI L[j]) (by simp [hj])
    by_cases hz : j = 0
    · subst hz; simpa [Addr.add, mkI] using this
    · simpa [Addr.add, hz, mkI] using this
/-- A slice of ints was returned that reads as L; what was there stays. -/
def RetNs (w : World) (L : List Nat) (e : Ending) (w' : World) : Prop := ∃ A c, e = .returned (.slice A L.length c) ∧ NsA w' A L ∧ Below w.heap.size w w'
def MemRel (W : World) (n : Nat) (g : Nat) (x : Int) (i v : Value) (wr : World) : Prop :=
  ∃ k : Nat, k ≤ 8 ∧ i = .int .i64 k ∧ wr.ownsRow W.heap.size 3 1 v (memK n k).length ((memK n k).map mkI) ∧ Below W.heap.size W wr ∧ wr.cell? ⟨g, 0, none⟩ = some (.int .u64 x)
theorem bit_yes {n k : Nat} {x : Int} (hn : n < 18446744073709551616) (hx : x = (n : Int)) (hk : k ≤ 8) : (bits .and .u64 x ((2 ^ k : Nat) : Int) == 0) = !(n.testBit k) := by
  rw [hx, and_bits hn (b := 2 ^ k) (by have := pow_all k (by omega); omega) rfl rfl]
  have h := bit_and n k
  cases e : n.testBit k
  · rw [h.2 e]; rfl
  · have : n &&& 2 ^ k ≠ 0 := fun g => by rw [h.1 g] at e; cases e
    simp only [Bool.not_true, beq_eq_false_iff_ne, ne_eq]
    omega
theorem tmod_bit (n k : Nat) : (((n : Int) / 2 ^ k).tmod 2 == 1) = n.testBit k := by
  have e : ((n : Int) / 2 ^ k) = ((n / 2 ^ k : Nat) : Int) := by simp
  have e2 : (((n / 2 ^ k : Nat) : Int)).tmod 2 = ((n / 2 ^ k % 2 : Nat) : Int) := rfl
  rw [e, e2, Nat.testBit_eq_decide_div_mod_eq]
  by_cases h : n / 2 ^ k % 2 = 1
  · rw [h]; rfl
  · have : ¬ (((n / 2 ^ k % 2 : Nat) : Int) = 1) := by omega
    simp only [h, decide_false]
    simpa using this
theorem has_c (n k : Nat) (x y : Int) (w : World) (hx : x = (n : Int)) (hy : y = (k : Int)) (hk : k < 64) : Calls Try.prog 17 #[.int .u64 x, .int .i64 y] w fun e w' => e = .returned (.bool (n.testBit k)) ∧ w = w' := by
  subst hx hy
  have hk' : (k : Int) < 64 := by omega
  have h0 : (0 : Int) ≤ (k : Int) := by omega
  have hb := tmod_bit n k
  go_enter Try.func17, Try.ntmps17
  go_wp2
  go_ret
  exact ⟨by rw [← hb]; simp, rfl⟩
end Go.Proofs.Ytiocmkaplblelaa

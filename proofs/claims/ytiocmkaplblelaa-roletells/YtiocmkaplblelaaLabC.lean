/- Package label: Print; PrintLabel of pyxref4. -/
import Derived.Test.YtiocmkaplblelaaLabB
namespace Go.Proofs.Ytiocmkaplblelaa
open Go.RowKit
theorem NsA.grown {w w' : World} {A : Option Addr} {L : List Nat} {B n : Nat} {v : Value} {xs : List Value} (h : NsA w A L) (ho : w.ownsRow B 5 1 v n xs) (hg : w.grownBy w' v.ownBlock) : NsA w' A L := fun j hj => by
  obtain ⟨g, cur, e, hh, hc⟩ := h j hj
  obtain ⟨g', e', hlt, _⟩ := h.lt j hj
  rw [e] at e'
  injection e' with e'
  injection e' with e'
  subst e'
  have hne : some g ≠ v.ownBlock := by
    intro hv
    rcases ho.2 with ⟨rfl, _⟩ | ⟨k, cap, cur', rfl, _, hk, _⟩
    · simp [Value.ownBlock] at hv
    · simp only [Value.ownBlock] at hv
      injection hv with hv
      subst hv
      rw [hh] at hk
      injection hk with hk
      injection hk with _ hk
      exact absurd hk (by decide)
  have hb := hg.block g hlt hne
  exact ⟨g, cur, e, by rw [hb]; exact hh, by rw [World.cell?_of_block (a := ⟨g, j, none⟩) hb]; exact hc⟩
theorem own_lit (w : World) {cs : Array Value} {l : List UInt8} {n : Nat} (h : cs = (Lib.byteCells l).toArray) (hn : l.length = n) (hm : n ≤ 281474976710656) : (w.alloc (.cells cs 5)).ownsRow w.heap.size 5 1 (.slice (some ⟨w.heap.size, 0, none⟩) n n) n (Lib.byteCells l) := by
  subst h
  refine ⟨by rw [Lib.byteCells_length, hn, Nat.mul_one], .inr ⟨_, n, (Lib.byteCells l).toArray, rfl, Nat.le_refl _, heap_alloc_new w _, Nat.le_refl _, by unfold maxLen; omega, ?_, ?_⟩⟩
  · simp only [List.size_toArray, Lib.byteCells_length]
    omega
  · simp only
    rw [List.take_of_length_le (by rw [Lib.byteCells_length]; omega)]
theorem own_below {w w' : World} {base : Nat} {e : TypeId} {size n : Nat} {v : Value} {xs : List Value} (h : w.ownsRow base e size v n xs) (hb : Below w.heap.size w w') : w'.ownsRow base e size v n xs := by
  refine ⟨h.1, ?_⟩
  rcases h.2 with h | ⟨g, cap, cur, hv, h1, hg, h2⟩
  · exact .inl h
  · have hlt : g < w.heap.size := by
      rcases Nat.lt_or_ge g w.heap.size with c | c
      · exact c
      · rw [Array.getElem?_eq_none c] at hg; cases hg
    exact .inr ⟨g, cap, cur, hv, h1, (hb.block g hlt).trans hg, h2⟩
theorem bytes_app (a b : List UInt8) : (⟨a.toArray⟩ ++ ⟨b.toArray⟩ : ByteArray) = ⟨(a ++ b).toArray⟩ := by
  apply ByteArray.ext
  simp
theorem own_some {w : World} {base : Nat} {e : TypeId} {size n : Nat} {v : Value} {xs : List Value} (hn : 0 < n) (h : w.ownsRow base e size v n xs) : v ≠ .slice none 0 0 := by
  rintro rfl
  rcases h.2 with ⟨_, h0⟩ | ⟨_, _, _, h1, _⟩
  · omega
  · cases h1
def txt (d : UInt8) (L : List Nat) (j : Nat) : List UInt8 := d :: 58 :: (L.take j).map dg
theorem txt_len {d : UInt8} {L : List Nat} {j : Nat} (h : j ≤ L.length) : (txt d L j).length = 2 + j := by
  simp only [txt, List.length_cons, List.length_map, List.length_take]
  omega
theorem txt_next {d : UInt8} {L : List Nat} {j : Nat} (h : j < L.length) : txt d L (j + 1) = txt d L j ++ [dg L[j]] := by
  simp only [txt, List.take_succ_eq_append_getElem h, List.map_append, List.map_cons, List.map_nil, List.cons_append]
def PrRel (W : World) (d : UInt8) (A : Option Addr) (L : List Nat) (i v : Value) (wr : World) : Prop :=
  ∃ j : Nat, j ≤ L.length ∧ i = .int .i64 j ∧ wr.ownsRow W.heap.size 5 1 v (2 + j) (Lib.byteCells (txt d L j)) ∧ Below W.heap.size W wr ∧ NsA wr A L
theorem bs_1 (x : UInt8) (w : World) (o : Obj) (ho : o = .cells #[.int .u8 (x.toNat : Int)] 5) : Bs (w.alloc o) (w.alloc o).heap.size (some ⟨w.heap.size, 0, none⟩) 1 1 [x] := by
  subst ho
  refine ⟨rfl, Nat.le_refl _, (fun e => by cases e), fun _ => ⟨w.heap.size, 0, rfl, by simp, fun j hj => ?_⟩⟩
  obtain rfl : j = 0 := by simp at hj; omega
  simp
theorem dg_i (k : Nat) (x : Int) (hx : x = (k : Int)) (hk : k ≤ 9) : 48 + x = ((dg k).toNat : Int) := by
  unfold dg
  rw [u8_of _ (by omega)]
  omega
def RpRel (W : World) (d : UInt8) (n : Nat) (x : Int) (g : Nat) (s i : Value) (wr : World) : Prop :=
  ∃ k : Nat, k ≤ 8 ∧ i = .int .i64 k ∧ s = .string ⟨(d :: 58 :: (memK n k).map dg).toArray⟩ ∧ Below W.heap.size W wr ∧ wr.cell? ⟨g, 0, none⟩ = some (.int .u64 x)
end Go.Proofs.Ytiocmkaplblelaa

/- Slices of bytes: what statements do with them, whatever the package. -/
import Derived.Test.YtiocmkaplblelaaPackA
import Derived.PlainAid
import Derived.ProofKit
import Derived.Laws.AppendOwnNone
import Derived.Laws.OwnMore
namespace Go.Proofs.Ytiocmkaplblelaa
open Go.RowKit
theorem ret_int {k : IntKind} {a b : Int} (h : a = b) : Ending.returned (.int k a) = .returned (.int k b) := by rw [h]
theorem Try.u8_is : Try.prog.underlying 5 = some (.int .u8) := Try.underlying5
theorem bs_in {w : World} {a : Addr} {len cap : Nat} {zs : List Int} (hl : len ≤ cap) (hz : zs.length = cap)
    (hc : ∀ i, i < zs.length → w.cell? (a.add i) = some (.int .u8 (zs.getD i 0))) (hw : ∀ n ∈ zs, (Lit.int .u8 n).wf = true) : ∃ l, Bs w w.heap.size (some a) len cap l := by
  have hlen : ((zs.take len).map fun z => UInt8.ofNat z.toNat).length = len := by rw [List.length_map, List.length_take]; omega
  refine ⟨(zs.take len).map fun z => UInt8.ofNat z.toNat, hlen, hl, (fun e => by cases e), fun h0 => ?_⟩
  obtain ⟨b, off, spot⟩ := a
  have h1 := hc 0 (by omega)
  have hspot : spot = none := by simpa [Addr.add] using World.cell?_spot h1
  subst hspot
  refine ⟨b, off, rfl, ?_, fun j hj => ?_⟩
  · have := World.block_lt_of_cell? w _ h1
    simpa [Addr.add_lit] using this
  · have hj' : j < zs.length := by rw [hlen] at hj; omega
    have h2 := hc j hj'
    rw [Addr.add_lit] at h2
    rw [h2, List.getD_eq_getElem?_getD, List.getElem?_eq_getElem hj']
    have h3 := hw _ (List.getElem_mem hj')
    simp only [List.getElem_map, List.getElem_take, Option.getD_some]
    simp [Lit.wf, IntKind.min, IntKind.max, IntKind.signed, IntKind.bits] at h3
    rw [u8_of _ (by omega)]
    congr 2
    omega
theorem i64_in {n : Int} (h : (Lit.int .i64 n).wf = true) : -9223372036854775808 ≤ n ∧ n ≤ 9223372036854775807 := by
  simp [Lit.wf, IntKind.min, IntKind.max, IntKind.signed, IntKind.bits] at h
  omega
theorem bel_tr {w w1 w2 : World} (h : Below w.heap.size w w1) (h' : Below w1.heap.size w1 w2) : Below w.heap.size w w2 := h.trans (h'.mono h.size)
theorem Own.base {w : World} {B B' g n c : Nat} {l : List UInt8} (h : Own w B g n c l) (hB : B' ≤ B) : Own w B' g n c l := by
  refine ⟨h.1, h.2.1, ?_⟩
  rcases h.2.2 with h' | ⟨g', c', cur, h1, h2, h3⟩
  · exact .inl h'
  · exact .inr ⟨g', c', cur, h1, by omega, h3⟩
theorem own_ne {w : World} {B n : Nat} {v : Value} {l : List UInt8} (h : w.ownsRow B 5 1 v n (Lib.byteCells l)) (h0 : v ≠ .slice none 0 0) : ∃ g c, v = .slice (some ⟨g, 0, none⟩) n c ∧ Own w B g n c l := by
  have hl : l.length = n := by have := h.1; rw [Lib.byteCells_length] at this; omega
  rcases h.2 with ⟨rfl, e⟩ | ⟨g, c, cur, rfl, rest⟩
  · exact absurd rfl h0
  · exact ⟨g, c, rfl, hl, h⟩
theorem own_zero (w : World) : (w.alloc (.cells #[] 5)).ownsRow w.heap.size 5 1 (.slice (some ⟨w.heap.size, 0, none⟩) 0 0) 0 [] :=
  World.ownsRow_made w #[] 0 (Nat.le_refl _) (by unfold maxLen; omega) rfl
def Cp (w : World) (n : Nat) (l : List UInt8) (e : Ending) (w' : World) : Prop := ∃ g c, e = .returned (.slice (some ⟨g, 0, none⟩) n c) ∧ Own w' w.heap.size g n c l ∧ Below w.heap.size w w'
theorem Own.block {w : World} {B g n c : Nat} {l : List UInt8} (h : Own w B g n c l) : ∃ cur : Array Value, w.heap[g]? = some (.cells cur 5 (0, 0)) ∧ n ≤ cur.size := by
  rcases h.2.2 with ⟨e, _⟩ | ⟨g', c', cur, e, _, hg, hnc, _, hs, _⟩
  · cases e
  · have hgg : g = g' := by injection e with e; injection e with e; injection e
    subst hgg
    exact ⟨cur, hg, by omega⟩
theorem Own.frozen {w : World} {B g n c : Nat} {l : List UInt8} (h : Own w B g n c l) (i : Nat) : w.frozen? ⟨g, i, none⟩ = false := by
  obtain ⟨cur, hg, _⟩ := h.block
  simp [World.frozen?, hg]
theorem Own.bs_set {w : World} {B g n c : Nat} {l : List UInt8} (h : Own w B g n c l) {k : Nat} (hk : k < n) (z : Int) (h0 : 0 ≤ z) (h1 : z < 256) :
    Bs (w.setCell ⟨g, k, none⟩ (.int .u8 z)) w.heap.size (some ⟨g, 0, none⟩) n c (l.set k (UInt8.ofNat z.toNat)) := by
  have hb := h.bs
  refine ⟨by rw [List.length_set]; exact hb.1, hb.2.1, (fun e => by cases e), fun _ => ⟨g, 0, rfl, h.lt, fun j hj => ?_⟩⟩
  have hjl : j < l.length := by rw [List.length_set] at hj; exact hj
  obtain ⟨g', o', e, _, hc⟩ := hb.2.2.2 (by have := hb.1; omega)
  cases e
  by_cases hjk : j = k
  · subst hjk
    have h2 := hc j hjl
    rw [Nat.zero_add] at h2 ⊢
    rw [World.cell?_setCell_same _ _ _ h2, List.getElem_set_self, u8_of _ (by omega)]
    congr 2
    omega
  · rw [World.cell?_setCell_other w ⟨g, k, none⟩ ⟨g, 0 + j, none⟩ _ (by intro e; injection e with _ e; omega), hc j hjl, List.getElem_set_ne (by omega)]
theorem Own.set_ {w : World} {B g n c : Nat} {l : List UInt8} (h : Own w B g n c l) (k : Nat) {x : Int} {y : Nat} (hy : y < 256) (hx : x = (y : Int)) :
    Own (w.setCell ⟨g, k, none⟩ (.int .u8 x)) B g n c (l.set k (UInt8.ofNat y)) := by
  refine ⟨by rw [List.length_set]; exact h.1, ?_⟩
  have e : Lib.byteCells (l.set k (UInt8.ofNat y)) = (Lib.byteCells l).set k (.int .u8 x) := by
    unfold Lib.byteCells
    rw [List.map_set, u8_of y hy, hx]
  rw [e]
  exact (h.2.stored k _).1
theorem u8_in {n : Int} (h : (Lit.int .u8 n).wf = true) : 0 ≤ n ∧ n < 256 := by
  simp [Lit.wf, IntKind.min, IntKind.max, IntKind.signed, IntKind.bits] at h
  omega
theorem u64_in {n : Int} (h : (Lit.int .u64 n).wf = true) : 0 ≤ n ∧ n < 18446744073709551616 := by
  simp [Lit.wf, IntKind.min, IntKind.max, IntKind.signed, IntKind.bits] at h
  omega
set_option maxHeartbeats 400000 in
theorem pickB (n m : Int) (w : World) (hm : 0 < m) (hm2 : m ≤ 1000000000000000) :
    Calls Try.prog 12 #[.int .i64 n, .int .i64 m] w fun e w' => ∃ k : Nat, (k : Int) < m ∧ e = .returned (.int .i64 (k : Int)) ∧ w = w' := by
  have h1 : n.tmod m < m := Int.tmod_lt_of_pos n hm
  have h2 : -m < n.tmod m := by
    have := Int.lt_tmod_of_pos n hm
    omega
  obtain ⟨t, ht⟩ : ∃ t, n.tmod m = t := ⟨_, rfl⟩
  rw [ht] at h1 h2
  have hne : (m == 0) = false := by simp; omega
  by_cases hneg : t < 0
  · go_enter Try.func12, Try.ntmps12
    go_wp2
    go_ret
    exact ⟨(t + m).toNat, by omega, ret_int (by omega), rfl⟩
  · go_enter Try.func12, Try.ntmps12
    go_wp2
    go_ret
    exact ⟨t.toNat, by omega, ret_int (by omega), rfl⟩
end Go.Proofs.Ytiocmkaplblelaa

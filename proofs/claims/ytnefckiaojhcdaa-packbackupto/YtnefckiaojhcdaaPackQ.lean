/- What came in, as lists; what its bulk bounds. -/
import Derived.Test.YtnefckiaojhcdaaPackN
import Derived.Test.YtnefckiaojhcdaaRows
import Derived.ProofKit
import Derived.Deep.Strs
namespace Go.Proofs.Ytnefckiaojhcdaa
open Go.RowKit
theorem vs_in {w : World} {a : Addr} {len cap m : Nat} {V : Nat → Value} (hl : len ≤ cap) (hm : len ≤ m) (hc : ∀ i, i < m → w.cell? (a.add i) = some (V i)) (vs : List Value) (hvs : vs.length = len) (hv : ∀ j (h : j < vs.length), vs[j] = V j) :
    Vs w w.heap.size (some a) len cap vs := by
  refine ⟨hvs, hl, fun h0 => ?_⟩
  obtain ⟨b, off, spot⟩ := a
  have h1 := hc 0 (by omega)
  have hspot : spot = none := by simpa [Addr.add] using World.cell?_spot h1
  subst hspot
  refine ⟨b, off, rfl, ?_, fun j hj => ?_⟩
  · have := World.block_lt_of_cell? w _ h1
    simpa [Addr.add_lit] using this
  · have h2 := hc j (by omega)
    rw [Addr.add_lit] at h2
    rw [h2, hv j hj]
theorem vs_nil (w : World) (vs : List Value) (h : vs = []) : Vs w w.heap.size none 0 0 vs := by
  subst h
  exact ⟨rfl, Nat.le_refl _, fun h => absurd h (by omega)⟩
theorem vs_ints {w : World} {a : Addr} {len cap : Nat} {zs : List Int} (hl : len ≤ cap) (hz : zs.length = cap) (hc : ∀ i, i < zs.length → w.cell? (a.add i) = some (.int .i64 (zs.getD i 0))) : Vs w w.heap.size (some a) len cap ((zs.take len).map (Value.int .i64)) := by
  refine vs_in hl (by omega) hc _ (by rw [List.length_map, List.length_take]; omega) fun j hj => ?_
  rw [List.length_map, List.length_take] at hj
  have hj' : j < zs.length := by omega
  rw [List.getElem_map, List.getElem_take, List.getD_eq_getElem?_getD, List.getElem?_eq_getElem hj']
  rfl
theorem vs_strs {w : World} {a : Addr} {len cap m : Nat} {X : Nat → ByteArray} (hl : len ≤ cap) (hm : len ≤ m) (hc : ∀ i, i < m → w.cell? (a.add i) = some (.string (X i))) : Vs w w.heap.size (some a) len cap (((List.range len).map fun i => (X i).data.toList).map strV) := by
  refine vs_in hl hm hc _ (by simp) fun j hj => ?_
  simp [strV]
section
variable {H : Type}
theorem bulk_pos (d : DataW H) : 1 ≤ Rows.uptoBulk d := by
  cases d with
  | lit l => cases l <;> simp [Rows.uptoBulk]
  | nil => simp [Rows.uptoBulk]
  | ptr d => simp [Rows.uptoBulk]
  | slice e s => simp [Rows.uptoBulk]
  | agg p => simp [Rows.uptoBulk]
  | iface t d => simp [Rows.uptoBulk]
  | map e => simp [Rows.uptoBulk]
  | held h => simp [Rows.uptoBulk]
theorem bulk_len : ∀ l : List (DataW H), l.length ≤ Rows.uptoBulkAll l
  | [] => by simp [Rows.uptoBulkAll]
  | d :: r => by
    have h1 := bulk_pos d
    have h2 := bulk_len r
    simp only [Rows.uptoBulkAll, List.length_cons]
    omega
theorem bulk_slice (e s : List (DataW H)) : Rows.uptoBulkAll e ≤ Rows.uptoBulk (.slice e s) := by
  simp only [Rows.uptoBulk]
  omega
theorem bulk_strs : ∀ ts : List (List UInt8), (ts.map List.length).sum ≤ Rows.uptoBulkAll (ts.map fun t => DataW.lit (H := H) (.string t))
  | [] => by simp [Rows.uptoBulkAll]
  | t :: ts => by
    have := bulk_strs ts
    simp only [List.map_cons, Rows.uptoBulkAll, Rows.uptoBulk, List.sum_cons]
    omega
theorem bulk_four {a b c d : DataW H} (hk : Rows.uptoSmall H [a, b, c, d] = true) : Rows.uptoBulk a ≤ 1048576 ∧ Rows.uptoBulk b ≤ 1048576 ∧ Rows.uptoBulk c ≤ 1048576 ∧ Rows.uptoBulk d ≤ 1048576 := by
  have h : Rows.uptoBulkAll [a, b, c, d] ≤ 1048576 := of_decide_eq_true hk
  simp only [Rows.uptoBulkAll] at h
  omega
end
theorem getD_le (ts : List (List UInt8)) (k : Nat) : (ts.getD k []).length ≤ (ts.map List.length).sum := by
  have h1 := sumT_succ ts k
  have h2 := sumT_le ts (k + 1)
  omega
theorem wf_getD {zs : List Int} (hw : ∀ n ∈ zs, (Lit.int .i64 n).wf = true) (k : Nat) : -9223372036854775808 ≤ zs.getD k 0 ∧ zs.getD k 0 ≤ 9223372036854775807 := by
  rcases Nat.lt_or_ge k zs.length with h | h
  · rw [List.getD_eq_getElem?_getD, List.getElem?_eq_getElem h]
    exact i64_in (hw _ (List.getElem_mem h))
  · rw [List.getD_eq_getElem?_getD, List.getElem?_eq_none h]
    simp
end Go.Proofs.Ytnefckiaojhcdaa

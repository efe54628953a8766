/- PackTells: one round of its loop's helpers. -/
import Derived.Test.YtnefckiaojhcdaaPackT
import Derived.Test.YtnefckiaojhcdaaHand
import Derived.Deep.CutBlock
import Derived.Deep.DeepCutAuto
namespace Go.Proofs.Ytnefckiaojhcdaa
open Go.RowKit
set_option maxHeartbeats 400000 in
theorem pick_big (n m : Int) (w : World) (hm : 0 < m) (hm2 : m ≤ 1000000000000000) :
    Calls Try.prog 10 #[.int .i64 n, .int .i64 m] w fun e w' => ∃ v, InRange m v ∧ e = .returned v ∧ w = w' := by
  have h1 : n.tmod m < m := Int.tmod_lt_of_pos n hm
  have h2 : -m < n.tmod m := by
    have := Int.lt_tmod_of_pos n hm
    omega
  obtain ⟨t, ht⟩ : ∃ t, n.tmod m = t := ⟨_, rfl⟩
  rw [ht] at h1 h2
  have hne : (m == 0) = false := by simp; omega
  by_cases hneg : t < 0
  · go_enter Try.func10, Try.ntmps10
    go_wp2
    go_ret
    exact ⟨_, ⟨_, ⟨by omega, by omega⟩, rfl⟩, rfl, rfl⟩
  · go_enter Try.func10, Try.ntmps10
    go_wp2
    go_ret
    exact ⟨_, ⟨_, ⟨by omega, by omega⟩, rfl⟩, rfl, rfl⟩
theorem Own.block {w : World} {B g n c : Nat} {l : List UInt8} (h : Own w B g n c l) : ∃ cur : Array Value, w.heap[g]? = some (.cells cur 5 (0, 0)) ∧ n ≤ cur.size := by
  rcases h.2.2 with ⟨e, _⟩ | ⟨g', c', cur, e, _, hg, hnc, _, hs, _⟩
  · cases e
  · have hgg : g = g' := by injection e with e; injection e with e; injection e
    subst hgg
    exact ⟨cur, hg, by omega⟩
theorem Own.frozen {w : World} {B g n c : Nat} {l : List UInt8} (h : Own w B g n c l) (i : Nat) : w.frozen? ⟨g, i, none⟩ = false := by
  obtain ⟨cur, hg, _⟩ := h.block
  simp [World.frozen?, hg]
theorem Own.bs_set {w : World} {B g n c : Nat} {l : List UInt8} (h : Own w B g n c l) {k : Nat} (hk : k < n) (z : Int) (h0 : 0 ≤ z) (h1 : z < 256) :
    Bs (w.setCell ⟨g, k, none⟩ (.int .u8 z)) w.heap.size (some ⟨g, 0, none⟩) n c (l.set k (UInt8.ofNat z.toNat)) := by
  have hb := h.bs
  refine ⟨by rw [List.length_set]; exact hb.1, hb.2.1, (fun e => by cases e), fun _ => ⟨g, 0, rfl, h.lt, fun j hj => ?_⟩⟩
  have hjl : j < l.length := by rw [List.length_set] at hj; exact hj
  obtain ⟨g', o', e, _, hc⟩ := hb.2.2.2 (by have := hb.1; omega)
  cases e
  by_cases hjk : j = k
  · subst hjk
    have h2 := hc j hjl
    rw [Nat.zero_add] at h2 ⊢
    rw [World.cell?_setCell_same _ _ _ h2, List.getElem_set_self, u8_of _ (by omega)]
    congr 2
    omega
  · rw [World.cell?_setCell_other w ⟨g, k, none⟩ ⟨g, 0 + j, none⟩ _ (by intro e; injection e with _ e; omega), hc j hjl, List.getElem_set_ne (by omega)]
end Go.Proofs.Ytnefckiaojhcdaa

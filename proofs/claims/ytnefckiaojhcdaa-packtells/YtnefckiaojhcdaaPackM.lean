/- pyxhand.Few. -/
import Derived.Test.YtnefckiaojhcdaaPackJ
import Derived.Laws.AppendOwnNone
namespace Go.Proofs.Ytnefckiaojhcdaa
open Go.RowKit
theorem Own.base {w : World} {B B' g n c : Nat} {l : List UInt8} (h : Own w B g n c l) (hB : B' ≤ B) : Own w B' g n c l := by
  refine ⟨h.1, h.2.1, ?_⟩
  rcases h.2.2 with h' | ⟨g', c', cur, h1, h2, h3⟩
  · exact .inl h'
  · exact .inr ⟨g', c', cur, h1, by omega, h3⟩
theorem own_ne {w : World} {B n : Nat} {v : Value} {l : List UInt8} (h : w.ownsRow B 5 1 v n (Lib.byteCells l)) (h0 : v ≠ .slice none 0 0) : ∃ g c, v = .slice (some ⟨g, 0, none⟩) n c ∧ Own w B g n c l := by
  have hl : l.length = n := by have := h.1; rw [Lib.byteCells_length] at this; omega
  rcases h.2 with ⟨rfl, e⟩ | ⟨g, c, cur, rfl, rest⟩
  · exact absurd rfl h0
  · exact ⟨g, c, rfl, hl, h⟩
theorem own_zero (w : World) : (w.alloc (.cells #[] 5)).ownsRow w.heap.size 5 1 (.slice (some ⟨w.heap.size, 0, none⟩) 0 0) 0 [] :=
  World.ownsRow_made w #[] 0 (Nat.le_refl _) (by unfold maxLen; omega) rfl
def Cp (w : World) (n : Nat) (l : List UInt8) (e : Ending) (w' : World) : Prop := ∃ g c, e = .returned (.slice (some ⟨g, 0, none⟩) n c) ∧ Own w' w.heap.size g n c l ∧ Below w.heap.size w w'
set_option maxRecDepth 100000 in
set_option maxHeartbeats 800000 in
theorem few_c (A : Option Addr) (n c : Nat) (l : List UInt8) (m : Int) (M k : Nat) (w : World) (hl : Bs w w.heap.size A n c l) (hm : m = (M : Int)) (hk : min n M = k) (hn : n ≤ 140737488355328) :
    Calls Try.prog 32 #[.slice A n c, .int .i64 m] w (Cp w k (l.take M)) := by
  subst hm
  obtain ⟨i0, hi, hz0, hz1, hz2⟩ := info_parts Try.i8
  have hnc := hl.room
  have hlen := hl.len
  by_cases hlt : M < n
  · obtain rfl : M = k := by omega
    have HL := Lib.hid (hl.head (k := M) (by omega))
    have hlt' : (M : Int) < (n : Int) := by omega
    have h0 : (0 : Int) ≤ (M : Int) := by omega
    have hMc : (M : Int) ≤ (c : Int) := by omega
    clear hl hlen
    go_enter Try.func32, Try.ntmps32
    cases A with
    | none =>
      have := HL.out.2.2.1 rfl
      omega
    | some ad =>
      go_wp2_with (at_builtin; refine wpList_append_own _ rfl (.tmp 12) (.tmp 13) _ rfl w.heap.size 5 i0 (.int .u8 0) 1 1 Try.u42 hi hz0 hz1 hz2 rfl (by decide) (.slice (some ⟨w.heap.size, 0, none⟩) 0 0) 0 [] rfl (own_zero w) ad M c (Lib.byteCells (l.take M)) rfl (by rw [Lib.byteCells_length, HL.out.len, Nat.mul_one]) ((HL.out.alloc (Nat.le_refl _) _).news ad rfl) (byteCells_ones _) (by unfold maxLen; omega) (by omega) (by simp) ?_; intro v1 w1 hown hgrow hnil)
      go_ret
      rw [Nat.zero_add, List.nil_append] at hown
      obtain ⟨g, c1, rfl, hO⟩ := own_ne hown (fun e => by have := hnil.1 e; simp at this)
      exact ⟨g, c1, rfl, hO, ((Below.refl _ _).alloc (Nat.le_refl _) _).grown hgrow (by simp) (fun k hk => by cases hk; exact Nat.le_refl _)⟩
  · obtain rfl : n = k := by omega
    have HT := Lib.hid (show l.take M = l from List.take_of_length_le (by omega))
    have HL := Lib.hid hl
    have hlt' : ¬ (M : Int) < (n : Int) := by omega
    clear hl hlen
    rw [HT.out]
    cases A with
    | none =>
      obtain rfl : c = 0 := HL.out.2.2.1 rfl
      obtain rfl : n = 0 := by omega
      have HE := Lib.hid (show l = [] from List.eq_nil_of_length_eq_zero HL.out.len)
      go_enter Try.func32, Try.ntmps32
      go_wp2_with (at_builtin; refine wpList_append_own_none rfl (.tmp 12) (.tmp 13) _ rfl w.heap.size 5 i0 1 Try.u42 hi (.slice (some ⟨w.heap.size, 0, none⟩) 0 0) 0 [] rfl (own_zero w) rfl ?_)
      go_ret
      rw [HE.out]
      exact ⟨w.heap.size, 0, rfl, ⟨rfl, own_zero w⟩, (Below.refl _ _).alloc (Nat.le_refl _) _⟩
    | some ad =>
      go_enter Try.func32, Try.ntmps32
      go_wp2_with (at_builtin; refine wpList_append_own _ rfl (.tmp 12) (.tmp 13) _ rfl w.heap.size 5 i0 (.int .u8 0) 1 1 Try.u42 hi hz0 hz1 hz2 rfl (by decide) (.slice (some ⟨w.heap.size, 0, none⟩) 0 0) 0 [] rfl (own_zero w) ad n c (Lib.byteCells l) rfl (by rw [Lib.byteCells_length, HL.out.len, Nat.mul_one]) ((HL.out.alloc (Nat.le_refl _) _).news ad rfl) (byteCells_ones _) (by unfold maxLen; omega) (by omega) (by simp) ?_; intro v1 w1 hown hgrow hnil)
      go_ret
      rw [Nat.zero_add, List.nil_append] at hown
      obtain ⟨g, c1, rfl, hO⟩ := own_ne hown (fun e => by have := hnil.1 e; simp at this)
      exact ⟨g, c1, rfl, hO, ((Below.refl _ _).alloc (Nat.le_refl _) _).grown hgrow (by simp) (fun k hk => by cases hk; exact Nat.le_refl _)⟩
end Go.Proofs.Ytnefckiaojhcdaa

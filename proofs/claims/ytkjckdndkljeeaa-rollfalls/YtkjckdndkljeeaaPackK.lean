/- PackKnown's walk: what it hands to its calls. -/
import Derived.Test.YtkjckdndkljeeaaPackJ
namespace Go.Proofs.Ytkjckdndkljeeaa
open Go.RowKit
/-- []byte(s). -/
theorem conv_bytes (l : List UInt8) (w : World) : ∃ c w', (convert 9 30 (.string ⟨l.toArray⟩)).run Try.prog w = .ok (.slice (some ⟨w.heap.size, 0, none⟩) l.length c) w' ∧ Bs w' w'.heap.size (some ⟨w.heap.size, 0, none⟩) l.length c l ∧ Below w.heap.size w w' := by
  have hr := run_bytes_of_string (P := Try.prog) w 9 30 5 ⟨l.toArray⟩ Try.underlying9 Try.u42 Try.u8_is
  refine ⟨_, _, hr, ?_, ?_⟩
  · refine ⟨rfl, grownCap_ge w _ 0 _, (fun e => by cases e), fun _ => ⟨w.heap.size, 0, rfl, ?_, fun j hj => ?_⟩⟩
    · show w.heap.size < (w.heap.push _).size
      rw [Array.size_push]
      omega
    · have h1 := World.cell?_alloc_mark w.drew (bytesRow ⟨l.toArray⟩ (grownCap w (⟨l.toArray⟩ : ByteArray).size 0 5)) 5 ((bytesRow ⟨l.toArray⟩ (grownCap w (⟨l.toArray⟩ : ByteArray).size 0 5)).size, (bytesRow ⟨l.toArray⟩ (grownCap w (⟨l.toArray⟩ : ByteArray).size 0 5)).size + 1) j
      rw [Nat.zero_add]
      refine h1.trans ?_
      rw [bytesRow_at _ _ j (by simpa using hj)]
      rfl
  · exact (Below.refl _ _).drew.alloc (Nat.le_refl _) _
theorem bs_one (x : UInt8) (w : World) (o : Obj) (ho : o = .cells #[.int .u8 (x.toNat : Int)] 5) : Bs (w.alloc o) (w.alloc o).heap.size (some ⟨w.heap.size, 0, none⟩) 1 1 [x] := by
  subst ho
  refine ⟨rfl, Nat.le_refl _, (fun e => by cases e), fun _ => ⟨w.heap.size, 0, rfl, by simp, fun j hj => ?_⟩⟩
  obtain rfl : j = 0 := by simp at hj; omega
  simp
theorem bs_two (x y : UInt8) (w : World) (o : Obj) (ho : o = .cells #[.int .u8 (x.toNat : Int), .int .u8 (y.toNat : Int)] 5) : Bs (w.alloc o) (w.alloc o).heap.size (some ⟨w.heap.size, 0, none⟩) 2 2 [x, y] := by
  subst ho
  refine ⟨rfl, Nat.le_refl _, (fun e => by cases e), fun _ => ⟨w.heap.size, 0, rfl, by simp, fun j hj => ?_⟩⟩
  rcases (show j = 0 ∨ j = 1 by simp at hj; omega) with rfl | rfl <;> simp
theorem enc_min_len : (enc (zig (-9223372036854775808))).length = 10 := by decide +kernel
theorem enc_max_len : (enc (zig 9223372036854775807)).length = 10 := by decide +kernel
theorem enc_64_len : (enc (zig 64)).length = 2 := by decide +kernel
theorem enc_2 : enc (zig 2) = [4] := by decide +kernel
/-- What stands behind the first byte of it. -/
theorem least_tail {w : World} {B g : Nat} {x : UInt8} {l : List UInt8} (h : Own w B g 11 11 (x :: l)) : Bs w w.heap.size (some ⟨g, 1, none⟩) 10 10 (l ++ []) := by
  have := h.bs.cut_no (k := 1) (by omega) (by omega)
  rw [List.append_nil]
  simpa [Addr.add_lit] using this
theorem news_two (x y : Int) (w : World) : ∀ j u, ([.int .u8 x, .int .u8 y] : List Value)[j]? = some u → (w.alloc (.cells #[.int .u8 x, .int .u8 y] 5)).cell? ((⟨w.heap.size, 0, none⟩ : Addr).add j) = some u := by
  intro j u hj
  match j, hj with
  | 0, hj => simp at hj; subst hj; simp [Addr.add]
  | 1, hj => simp at hj; subst hj; simp [Addr.add]
theorem ones_two (x y : Int) : ∀ u ∈ ([.int .u8 x, .int .u8 y] : List Value), u.oneCell' = true := by
  intro u hu
  simp at hu
  rcases hu with rfl | rfl <;> rfl
theorem byteCells_56 (l : List UInt8) : Lib.byteCells l ++ [.int .u8 5, .int .u8 6] = Lib.byteCells (l ++ [5, 6]) := by rw [Lib.byteCells_append]; rfl
theorem byteCells_7 (l : List UInt8) : Lib.byteCells l ++ [.int .u8 7] = Lib.byteCells (l ++ [7]) := by rw [Lib.byteCells_append]; rfl
theorem f_none : ∀ l ∈ ([[], [128], [128, 0], [255, 255, 255, 255, 255, 255, 255, 255, 255, 2], [255, 255, 255, 255, 255, 255, 255, 255, 255, 255, 1], [129, 128, 0]] : List (List UInt8)), firstS l = 0 := by decide +kernel
theorem f_one : firstN [1] < 0 := by decide +kernel
theorem f_four : firstS [4, 97] = 1 ∧ firstN [4, 97] = 2 := by decide +kernel
theorem least_head {w : World} {B g : Nat} {x : UInt8} {l : List UInt8} (h : Own w B g 11 11 (x :: l)) : w.cell? ⟨g, 0, none⟩ = some (.int .u8 (x.toNat : Int)) := by
  obtain ⟨g', o, _, e, _, hc⟩ := h.bs.at_ (k := 0) (by omega)
  cases e
  exact hc
theorem text_ab (w : World) : Calls Try.prog 46 #[.slice none 0 0, .string ⟨#[97, 98]⟩] w fun e w' => ∃ g c, e = .returned (.slice (some ⟨g, 0, none⟩) 3 c) ∧ Own w' w.heap.size g 3 c [4, 97, 98] ∧ Below w.heap.size w w' := by
  refine (text_c none 0 0 [] [97, 98] w (Bs.nil_ _ _) (by decide)).mono fun e w' ⟨g, n, c, he, ho, hb⟩ => ?_
  have e2 : ([] ++ enc (zig (([97, 98] : List UInt8).length : Nat)) ++ [97, 98] : List UInt8) = [4, 97, 98] := by decide +kernel
  rw [e2] at ho
  have hn : n = 3 := ho.1.symm
  subst hn
  exact ⟨g, c, he, ho, hb⟩
theorem f_ab : firstN [4, 97, 98, 7] = ((2 : Nat) : Int) ∧ firstS [4, 97, 98, 7] = 1 := by decide +kernel
theorem rt_ab (A : Option Addr) (c : Nat) (w : World) (h : Bs w w.heap.size A 4 c [4, 97, 98, 7]) : Calls Try.prog 56 #[.slice A 4 c] w fun e w' => e = .returned (.tuple #[.string ⟨#[97, 98]⟩, .slice (some ⟨w.heap.size, 0, none⟩) 1 1, .int .i64 0]) ∧ Own w' w.heap.size w.heap.size 1 1 [7] ∧ Below w.heap.size w w' :=
  readText_yes A 4 c [4, 97, 98, 7] w 2 1 h (by decide) f_ab.1 f_ab.2 (by decide) (by decide)
theorem rt_one (w : World) (o : Obj) (ho : o = .cells #[.int .u8 1] 5) : Calls Try.prog 56 #[.slice (some ⟨w.heap.size, 0, none⟩) 1 1] (w.alloc o) fun e w' => e = .returned (.tuple #[.string ⟨#[]⟩, .slice none 0 0, .int .i64 2]) ∧ w.alloc o = w' :=
  readText_no _ 1 1 [1] _ (bs_one 1 w o ho) (by decide) (.inr (.inl f_one))
theorem rt_two (w : World) (g : Nat) (o : Obj) (ho : o = .cells #[.int .u8 4, .int .u8 97] 5) (hg : w.heap.size = g) : Calls Try.prog 56 #[.slice (some ⟨g, 0, none⟩) 2 2] (w.alloc o) fun e w' => e = .returned (.tuple #[.string ⟨#[]⟩, .slice none 0 0, .int .i64 2]) ∧ w.alloc o = w' :=
  readText_no _ 2 2 [4, 97] _ (hg ▸ bs_two 4 97 w o ho) (by decide) (.inr (.inr (by rw [f_four.1, f_four.2]; decide)))
end Go.Proofs.Ytkjckdndkljeeaa

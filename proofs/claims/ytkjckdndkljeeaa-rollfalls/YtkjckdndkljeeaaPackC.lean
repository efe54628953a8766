/- Package pack: roomy. -/
import Derived.Test.YtkjckdndkljeeaaPackB
namespace Go.Proofs.Ytkjckdndkljeeaa
open Go.RowKit
set_option maxHeartbeats 400000 in
theorem roomy_c (A : Option Addr) (n c : Nat) (l : List UInt8) (room : Int) (r : Nat) (w : World) (hr : room = r) (hl : Bs w w.heap.size A n c l) (hm : n + r ≤ 281474976710656) :
    Calls Try.prog 58 #[.slice A n c, .int .i64 room] w fun e w' => e = .returned (.slice (some ⟨w.heap.size, 0, none⟩) n (n + r)) ∧ Own w' w.heap.size w.heap.size n (n + r) l ∧ Below w.heap.size w w' := by
  subst hr
  obtain ⟨i0, hi, hz0, hz1, hz2⟩ := info_parts Try.i8
  have hl1 := Lib.hid hl
  have hlen := Lib.hid hl.len
  clear hl
  go_enter Try.func58, Try.ntmps58
  go_wp2_with (first
    | (at_make; refine wpList_make_own _ rfl (.const (.int .i64 0)) (.tmp 8) _ rfl w.heap.size 5 i0 _ 1 Try.u42 hi hz0 hz1 .i64 .i64 _ (n + r) rfl rfl (by omega) (by rw [hz2]; omega) (by unfold maxLen; omega) (Nat.le_refl _) ?_; intro w1 hown1 hgrow1)
    | (at_builtin; refine wpList_append_fits_any _ rfl (.tmp 9) (.tmp 10) _ rfl w.heap.size 5 i0 1 Try.u42 hi hz1 w.heap.size 0 (n + r) [] rfl hown1 A n c (Lib.byteCells l) rfl (by rw [Lib.byteCells_length, hlen.out, Nat.mul_one]) (fun e => ⟨by have := hl1.out.2.2.1 e; have := hl1.out.room; omega, hl1.out.2.2.1 e⟩) (Bs.news (hl1.out.below ((Below.refl _ _).grown hgrow1 (Nat.le_refl _) (by simp)))) (byteCells_ones _) (by omega) ?_; intro w2 hown2 hgrow2))
  go_ret
  have hb1 : Below w.heap.size w w1 := (Below.refl _ _).grown hgrow1 (Nat.le_refl _) (by simp)
  refine ⟨by simp, ⟨hlen.out, ?_⟩, hb1.grown hgrow2 hb1.size (fun k hk => by simp at hk; omega)⟩
  simpa using hown2
end Go.Proofs.Ytkjckdndkljeeaa

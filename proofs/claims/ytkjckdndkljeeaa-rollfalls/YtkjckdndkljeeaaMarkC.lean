/- Package mark, and its other in pyxref4: Bytes. -/
import Derived.Test.YtkjckdndkljeeaaMarkA
import Derived.Deep.OwnRows
namespace Go.Proofs.Ytkjckdndkljeeaa
open Go.RowKit
/-- The eight bytes of a word, the highest first. -/
def be8 (h : Nat) : List UInt8 := [UInt8.ofNat (h / 72057594037927936 % 256), UInt8.ofNat (h / 281474976710656 % 256), UInt8.ofNat (h / 1099511627776 % 256), UInt8.ofNat (h / 4294967296 % 256), UInt8.ofNat (h / 16777216 % 256), UInt8.ofNat (h / 65536 % 256), UInt8.ofNat (h / 256 % 256), UInt8.ofNat (h % 256)]
/-- The first k of them are laid. -/
def beU (h k : Nat) : List UInt8 := (be8 h).take k ++ List.replicate (8 - k) 0
/-- The last ones, from k on, are laid. -/
def beD (h k : Nat) : List UInt8 := List.replicate k 0 ++ (be8 h).drop k
theorem beU_0 (h : Nat) : beU h 0 = List.replicate 8 0 := rfl
theorem beU_8 (h : Nat) : beU h 8 = be8 h := rfl
theorem beD_8 (h : Nat) : beD h 8 = List.replicate 8 0 := rfl
theorem beD_0 (h : Nat) : beD h 0 = be8 h := rfl
theorem w8 (x : Nat) : IntKind.u8.wrap (x : Int) = ((x % 256 : Nat) : Int) := by rw [IntKind.wrap_u8]; omega
theorem own_8 (w : World) : Own (w.alloc (.cells (madeCells #[.int .u8 0] 8) 5)) w.heap.size w.heap.size 8 8 (List.replicate 8 0) := by
  refine ⟨rfl, ?_⟩
  have := World.ownsRow_lit (base := w.heap.size) (e := 5) (size := 1) w (madeCells #[.int .u8 0] 8) 8 (Nat.le_refl _) (by unfold maxLen; omega) (by simp [madeCells])
  rw [toList_madeCells_one] at this
  exact this
def UpRel (w : World) (h : Nat) (i : Value) (wr : World) : Prop := ∃ k : Nat, k ≤ 8 ∧ i = .int .i64 k ∧ Own wr w.heap.size w.heap.size 8 8 (beU h k) ∧ Below w.heap.size w wr
def DnRel (w : World) (h : Nat) (x i : Value) (wr : World) : Prop := ∃ (k : Nat) (j : Int), k ≤ 8 ∧ j = (k : Int) - 1 ∧ i = .int .i64 j ∧ x = .int .u64 ((h / 256 ^ (8 - k) : Nat) : Int) ∧ Own wr w.heap.size w.heap.size 8 8 (beD h k) ∧ Below w.heap.size w wr
theorem up_next {w : World} {B g y : Nat} {l l' : List UInt8} {k : Nat} {x : Int} (ho : Own w B g 8 8 l) (hy : y < 256) (hx : x = (y : Int)) (e : l.set k (UInt8.ofNat y) = l') : Own (w.setCell ⟨g, k, none⟩ (.int .u8 x)) B g 8 8 l' := by
  rw [← e]
  exact ho.set_ k hy hx
set_option maxRecDepth 100000 in
set_option maxHeartbeats 1600000 in
theorem bytes_c (h : Nat) (y : Int) (w : World) (hy : y = (h : Int)) :
    Calls Try.prog 47 #[.int .u64 y] w fun e w' => e = .returned (.slice (some ⟨w.heap.size, 0, none⟩) 8 8) ∧ Own w' w.heap.size w.heap.size 8 8 (be8 h) ∧ Below w.heap.size w w' := by
  subst hy
  have hmk := run_make_row' (P := Try.prog) 30 5 (.int .u8 0) 1 Try.u42 Try.i8 rfl .i64 .i64 8 (by omega) (by omega) w
  rw [show ((8 : Nat) : Int) = (8 : Int) from rfl] at hmk
  have HO := Lib.hid (own_8 w)
  have HBl := Lib.hid (show Below w.heap.size w (w.alloc (.cells (madeCells #[.int .u8 0] 8) 5)) from (Below.refl _ _).alloc (Nat.le_refl _) _)
  go_enter Try.func47, Try.ntmps47
  go_wp2
  go_loopw [8] (fun i wr => UpRel w h i wr) (fun i _ => 8 - (intOf i).toNat)
  case atStart => exact ⟨0, by omega, rfl, by rw [beU_0]; exact HO.out, HBl.out⟩
  case round =>
    clear hmk HO HBl
    obtain ⟨k, hk, rfl, hown, hb⟩ := hrel
    have HOW := Lib.hid hown
    have HBe := Lib.hid hb
    have fz := fun j => hown.2.frozenAt j
    have hcl := hown.bs.2.2.2 (by omega)
    obtain ⟨g0, o0, he, _, hcs⟩ := hcl
    cases he
    clear hown hb
    rcases (show k = 8 ∨ k = 0 ∨ k = 1 ∨ k = 2 ∨ k = 3 ∨ k = 4 ∨ k = 5 ∨ k = 6 ∨ k = 7 by omega) with rfl | rfl | rfl | rfl | rfl | rfl | rfl | rfl | rfl
    · clear hcs fz hk
      go_wp2
      go_ret
      exact ⟨rfl, by rw [← beU_8]; exact HOW.out, HBe.out⟩
    · have c0 := hcs 0 (by simp [beU, be8])
      have f0 := fz 0
      clear hcs fz hk
      go_wp2
      go_roundw
      case rel => exact ⟨1, by omega, rfl, up_next (y := h / 72057594037927936 % 256) HOW.out (Nat.mod_lt _ (by decide)) (by omega) (by rfl), HBe.out.setCell (Nat.le_refl _) _⟩
      case measure => decide
    · have c0 := hcs 1 (by simp [beU, be8])
      have f0 := fz 1
      clear hcs fz hk
      go_wp2
      go_roundw
      case rel => exact ⟨2, by omega, rfl, up_next (y := h / 281474976710656 % 256) HOW.out (Nat.mod_lt _ (by decide)) (by omega) (by rfl), HBe.out.setCell (Nat.le_refl _) _⟩
      case measure => decide
    · have c0 := hcs 2 (by simp [beU, be8])
      have f0 := fz 2
      clear hcs fz hk
      go_wp2
      go_roundw
      case rel => exact ⟨3, by omega, rfl, up_next (y := h / 1099511627776 % 256) HOW.out (Nat.mod_lt _ (by decide)) (by omega) (by rfl), HBe.out.setCell (Nat.le_refl _) _⟩
      case measure => decide
    · have c0 := hcs 3 (by simp [beU, be8])
      have f0 := fz 3
      clear hcs fz hk
      go_wp2
      go_roundw
      case rel => exact ⟨4, by omega, rfl, up_next (y := h / 4294967296 % 256) HOW.out (Nat.mod_lt _ (by decide)) (by omega) (by rfl), HBe.out.setCell (Nat.le_refl _) _⟩
      case measure => decide
    · have c0 := hcs 4 (by simp [beU, be8])
      have f0 := fz 4
      clear hcs fz hk
      go_wp2
      go_roundw
      case rel => exact ⟨5, by omega, rfl, up_next (y := h / 16777216 % 256) HOW.out (Nat.mod_lt _ (by decide)) (by omega) (by rfl), HBe.out.setCell (Nat.le_refl _) _⟩
      case measure => decide
    · have c0 := hcs 5 (by simp [beU, be8])
      have f0 := fz 5
      clear hcs fz hk
      go_wp2
      go_roundw
      case rel => exact ⟨6, by omega, rfl, up_next (y := h / 65536 % 256) HOW.out (Nat.mod_lt _ (by decide)) (by omega) (by rfl), HBe.out.setCell (Nat.le_refl _) _⟩
      case measure => decide
    · have c0 := hcs 6 (by simp [beU, be8])
      have f0 := fz 6
      clear hcs fz hk
      go_wp2
      go_roundw
      case rel => exact ⟨7, by omega, rfl, up_next (y := h / 256 % 256) HOW.out (Nat.mod_lt _ (by decide)) (by omega) (by rfl), HBe.out.setCell (Nat.le_refl _) _⟩
      case measure => decide
    · have c0 := hcs 7 (by simp [beU, be8])
      have f0 := fz 7
      clear hcs fz hk
      go_wp2
      go_roundw
      case rel => exact ⟨8, by omega, rfl, up_next (y := h % 256) HOW.out (Nat.mod_lt _ (by decide)) (by omega) (by rfl), HBe.out.setCell (Nat.le_refl _) _⟩
      case measure => decide
theorem dn_next {w : World} {B g y : Nat} {l l' : List UInt8} {k : Nat} {x : Int} (ho : Own w B g 8 8 l) (hy : y < 256) (hx : x = (y : Int)) (e : l.set k (UInt8.ofNat y) = l') : Own (w.setCell ⟨g, k, none⟩ (.int .u8 x)) B g 8 8 l' := by
  rw [← e]
  exact ho.set_ k hy hx
theorem dv8_0 (h : Nat) : h / 256 ^ (8 - 0) = h / 18446744073709551616 := rfl
theorem dv8_1 (h : Nat) : h / 256 ^ (8 - 1) = h / 72057594037927936 := rfl
theorem dv8_2 (h : Nat) : h / 256 ^ (8 - 2) = h / 281474976710656 := rfl
theorem dv8_3 (h : Nat) : h / 256 ^ (8 - 3) = h / 1099511627776 := rfl
theorem dv8_4 (h : Nat) : h / 256 ^ (8 - 4) = h / 4294967296 := rfl
theorem dv8_5 (h : Nat) : h / 256 ^ (8 - 5) = h / 16777216 := rfl
theorem dv8_6 (h : Nat) : h / 256 ^ (8 - 6) = h / 65536 := rfl
theorem dv8_7 (h : Nat) : h / 256 ^ (8 - 7) = h / 256 := rfl
theorem dv8_8 (h : Nat) : h / 256 ^ (8 - 8) = h / 1 := rfl
set_option maxRecDepth 100000 in
set_option maxHeartbeats 1600000 in
theorem refBytes_c (h : Nat) (y : Int) (w : World) (hy : y = (h : Int)) (hh : h < 18446744073709551616) :
    Calls Try.prog 50 #[.int .u64 y] w fun e w' => e = .returned (.slice (some ⟨w.heap.size, 0, none⟩) 8 8) ∧ Own w' w.heap.size w.heap.size 8 8 (be8 h) ∧ Below w.heap.size w w' := by
  subst hy
  have hmk := run_make_row' (P := Try.prog) 30 5 (.int .u8 0) 1 Try.u42 Try.i8 rfl .i64 .i64 8 (by omega) (by omega) w
  rw [show ((8 : Nat) : Int) = (8 : Int) from rfl] at hmk
  have HO := Lib.hid (own_8 w)
  have HBl := Lib.hid (show Below w.heap.size w (w.alloc (.cells (madeCells #[.int .u8 0] 8) 5)) from (Below.refl _ _).alloc (Nat.le_refl _) _)
  go_enter Try.func50, Try.ntmps50
  go_wp2
  go_loopw [0, 4] (fun x i wr => DnRel w h x i wr) (fun _ i _ => (intOf i + 1).toNat)
  case atStart => exact ⟨8, 7, by omega, by omega, rfl, by rw [dv8_8, Nat.div_one], by rw [beD_8]; exact HO.out, HBl.out⟩
  case round =>
    clear hmk HO HBl
    obtain ⟨k, j, hk, hj, rfl, rfl, hown, hb⟩ := hrel
    have HOW := Lib.hid hown
    have HBe := Lib.hid hb
    have fz := fun j => hown.2.frozenAt j
    have hcl := hown.bs.2.2.2 (by omega)
    obtain ⟨g0, o0, he, _, hcs⟩ := hcl
    cases he
    clear hown hb
    rcases (show k = 0 ∨ k = 1 ∨ k = 2 ∨ k = 3 ∨ k = 4 ∨ k = 5 ∨ k = 6 ∨ k = 7 ∨ k = 8 by omega) with rfl | rfl | rfl | rfl | rfl | rfl | rfl | rfl | rfl
    · obtain rfl : j = -1 := by omega
      clear hcs fz hk hj
      go_wp2
      go_ret
      exact ⟨rfl, by rw [← beD_0]; exact HOW.out, HBe.out⟩
    · obtain rfl : j = 0 := by omega
      have c0 := hcs 0 (by simp [beD, be8])
      have f0 := fz 0
      rw [dv8_1]
      clear hcs fz hk hj
      go_wp2
      go_roundw
      case rel => exact ⟨0, -1, by omega, by omega, rfl, by rw [dv8_0]; congr 1 <;> omega, dn_next (y := h / 72057594037927936 % 256) HOW.out (Nat.mod_lt _ (by decide)) (by omega) (by rfl), HBe.out.setCell (Nat.le_refl _) _⟩
      case measure => decide
    · obtain rfl : j = 1 := by omega
      have c0 := hcs 1 (by simp [beD, be8])
      have f0 := fz 1
      rw [dv8_2]
      clear hcs fz hk hj
      go_wp2
      go_roundw
      case rel => exact ⟨1, 0, by omega, by omega, rfl, by rw [dv8_1]; congr 1 <;> omega, dn_next (y := h / 281474976710656 % 256) HOW.out (Nat.mod_lt _ (by decide)) (by omega) (by rfl), HBe.out.setCell (Nat.le_refl _) _⟩
      case measure => decide
    · obtain rfl : j = 2 := by omega
      have c0 := hcs 2 (by simp [beD, be8])
      have f0 := fz 2
      rw [dv8_3]
      clear hcs fz hk hj
      go_wp2
      go_roundw
      case rel => exact ⟨2, 1, by omega, by omega, rfl, by rw [dv8_2]; congr 1 <;> omega, dn_next (y := h / 1099511627776 % 256) HOW.out (Nat.mod_lt _ (by decide)) (by omega) (by rfl), HBe.out.setCell (Nat.le_refl _) _⟩
      case measure => decide
    · obtain rfl : j = 3 := by omega
      have c0 := hcs 3 (by simp [beD, be8])
      have f0 := fz 3
      rw [dv8_4]
      clear hcs fz hk hj
      go_wp2
      go_roundw
      case rel => exact ⟨3, 2, by omega, by omega, rfl, by rw [dv8_3]; congr 1 <;> omega, dn_next (y := h / 4294967296 % 256) HOW.out (Nat.mod_lt _ (by decide)) (by omega) (by rfl), HBe.out.setCell (Nat.le_refl _) _⟩
      case measure => decide
    · obtain rfl : j = 4 := by omega
      have c0 := hcs 4 (by simp [beD, be8])
      have f0 := fz 4
      rw [dv8_5]
      clear hcs fz hk hj
      go_wp2
      go_roundw
      case rel => exact ⟨4, 3, by omega, by omega, rfl, by rw [dv8_4]; congr 1 <;> omega, dn_next (y := h / 16777216 % 256) HOW.out (Nat.mod_lt _ (by decide)) (by omega) (by rfl), HBe.out.setCell (Nat.le_refl _) _⟩
      case measure => decide
    · obtain rfl : j = 5 := by omega
      have c0 := hcs 5 (by simp [beD, be8])
      have f0 := fz 5
      rw [dv8_6]
      clear hcs fz hk hj
      go_wp2
      go_roundw
      case rel => exact ⟨5, 4, by omega, by omega, rfl, by rw [dv8_5]; congr 1 <;> omega, dn_next (y := h / 65536 % 256) HOW.out (Nat.mod_lt _ (by decide)) (by omega) (by rfl), HBe.out.setCell (Nat.le_refl _) _⟩
      case measure => decide
    · obtain rfl : j = 6 := by omega
      have c0 := hcs 6 (by simp [beD, be8])
      have f0 := fz 6
      rw [dv8_7]
      clear hcs fz hk hj
      go_wp2
      go_roundw
      case rel => exact ⟨6, 5, by omega, by omega, rfl, by rw [dv8_6]; congr 1 <;> omega, dn_next (y := h / 256 % 256) HOW.out (Nat.mod_lt _ (by decide)) (by omega) (by rfl), HBe.out.setCell (Nat.le_refl _) _⟩
      case measure => decide
    · obtain rfl : j = 7 := by omega
      have c0 := hcs 7 (by simp [beD, be8])
      have f0 := fz 7
      rw [dv8_8]
      clear hcs fz hk hj
      go_wp2
      go_roundw
      case rel => exact ⟨7, 6, by omega, by omega, rfl, by rw [dv8_7]; congr 1 <;> omega, dn_next (y := h % 256) HOW.out (Nat.mod_lt _ (by decide)) (by omega) (by rfl), HBe.out.setCell (Nat.le_refl _) _⟩
      case measure => decide
end Go.Proofs.Ytkjckdndkljeeaa

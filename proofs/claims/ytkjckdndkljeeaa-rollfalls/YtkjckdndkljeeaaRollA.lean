/- Package roll: bytes.Equal, strings.Clone, marked, length, number. -/
import Derived.Test.YtkjckdndkljeeaaRollP
import Derived.Test.YtkjckdndkljeeaaMarkB
import Derived.Test.YtkjckdndkljeeaaPackT
import Derived.Test.YtkjckdndkljeeaaOrd2
import Derived.Lib.BufferWrite
import Derived.Lib.UnsafeStr
import Derived.Deep.QuietTactic
import Derived.BigQuiet
namespace Go.Proofs.Ytkjckdndkljeeaa
open Go.RowKit
theorem bel_drewN (w : World) (n : Nat) : Below w.heap.size w (w.drewN n) := ⟨rfl, rfl, rfl, Nat.le_refl _, fun _ _ => rfl⟩
set_option maxRecDepth 100000 in
set_option maxHeartbeats 800000 in
theorem equal_c (A A' : Option Addr) (n c n' c' : Nat) (l l' : List UInt8) (β : Bool) (w : World) (h : Bs w w.heap.size A n c l) (h' : Bs w w.heap.size A' n' c' l') (hβ : (l == l') = β) :
    Calls Try.prog 54 #[.slice A n c, .slice A' n' c'] w fun e w' => e = .returned (.bool β) ∧ w = w' := by
  have h1 := str_run h
  have h2 := str_run h'
  have HB := Lib.hid hβ
  clear h h' hβ
  go_enter Try.func54, Try.ntmps54
  go_wp2
  go_ret
  refine ⟨?_, rfl⟩
  rw [← HB.out]
  rfl
theorem lenB_two {l : List UInt8} (h : 2 ≤ l.length) : lenB l = if (l[0]'(by omega)).toNat < 128 ∨ (l[1]'(by omega)).toNat < 128 then 0 else ((l[0]'(by omega)).toNat - 128) * 128 + ((l[1]'(by omega)).toNat - 128) := by
  match l, h with
  | x :: y :: _, _ => rfl
set_option maxRecDepth 100000 in
set_option maxHeartbeats 800000 in
theorem length_c (A : Option Addr) (n c : Nat) (l : List UInt8) (r : Nat) (w : World) (h : Bs w w.heap.size A n c l) (hr : lenB l = r) :
    Calls Try.prog 53 #[.slice A n c] w fun e w' => e = .returned (.int .i64 r) ∧ Below w.heap.size w w' := by
  have hlen := h.len
  by_cases h2 : n < 2
  · obtain rfl : r = 0 := by rw [← hr, lenB_short (by omega)]
    have h2' : (n : Int) < 2 := by omega
    clear h hr
    go_enter Try.func53, Try.ntmps53
    go_wp2
    go_ret
    exact ⟨rfl, Below.refl _ _⟩
  · have h2' : ¬ (n : Int) < 2 := by omega
    obtain ⟨g, o, h0, rfl, _, c0⟩ := h.at_ (k := 0) (by omega)
    obtain ⟨_, _, h1, e, _, c1⟩ := h.at_ (k := 1) (by omega)
    cases e
    rw [Nat.add_zero] at c0
    rw [lenB_two (by omega)] at hr
    obtain ⟨x, hx⟩ : ∃ x : Nat, l[0].toNat = x := ⟨_, rfl⟩
    obtain ⟨y, hy⟩ : ∃ y : Nat, l[1].toNat = y := ⟨_, rfl⟩
    have hx2 := u8_lt l[0]
    have hy2 := u8_lt l[1]
    rw [hx] at hr c0 hx2
    rw [hy] at hr c1 hy2
    have HR := Lib.hid hr
    have p0 : (0 : Int) < (n : Int) := by omega
    have p1 : (1 : Int) < (n : Int) := by omega
    clear h hr hx hy hlen h2
    by_cases hx3 : x < 128
    · have hx3' : (x : Int) < 128 := by omega
      obtain rfl : r = 0 := by rw [← HR.out, if_pos (.inl hx3)]
      go_enter Try.func53, Try.ntmps53
      go_wp2
      go_ret
      exact ⟨rfl, Below.refl _ _⟩
    · by_cases hy3 : y < 128
      · have hx3' : ¬ (x : Int) < 128 := by omega
        have hy3' : (y : Int) < 128 := by omega
        obtain rfl : r = 0 := by rw [← HR.out, if_pos (.inr hy3)]
        go_enter Try.func53, Try.ntmps53
        go_wp2
        go_ret
        exact ⟨rfl, Below.refl _ _⟩
      · have hx3' : ¬ (x : Int) < 128 := by omega
        have hy3' : ¬ (y : Int) < 128 := by omega
        have hx4 : IntKind.u8.wrap ((x : Int) - 128) = (x : Int) - 128 := by rw [IntKind.wrap_u8]; omega
        have hy4 : IntKind.u8.wrap ((y : Int) - 128) = (y : Int) - 128 := by rw [IntKind.wrap_u8]; omega
        rw [if_neg (by omega)] at HR
        go_enter Try.func53, Try.ntmps53
        go_wp2
        go_quiet (fail)
        go_wp2
        go_ret
        refine ⟨ret_int ?_, ?_⟩
        · rw [← HR.out]
          omega
        · exact bel_drewN _ _
theorem numB_lt : ∀ (l : List UInt8) (a : Nat), a < 18446744073709551616 → l.foldl (fun a c => a * 256 % 18446744073709551616 + c.toNat) a < 18446744073709551616
  | [], a, h => h
  | c :: l, a, h => by
    have h1 := u8_lt c
    have h2 : a * 256 % 18446744073709551616 + c.toNat < 18446744073709551616 := by omega
    exact numB_lt l _ h2
theorem num_step {l : List UInt8} {k : Nat} (h : k < l.length) : numB (l.take (k + 1)) = numB (l.take k) * 256 % 18446744073709551616 + l[k].toNat := by
  unfold numB
  rw [List.take_succ_eq_append_getElem h, List.foldl_append]
  rfl
theorem or_num (u x : Nat) (hx : x < 256) : bits .or .u64 (IntKind.u64.wrap ((u : Int) * 256)) (x : Int) = ((u * 256 % 18446744073709551616 + x : Nat) : Int) := by
  have e1 : IntKind.u64.wrap ((u : Int) * 256) = ((u * 256 % 18446744073709551616 : Nat) : Int) := by rw [IntKind.wrap_u64]; omega
  rw [e1, bits_or_u64_nat _ _ (by omega) (by omega)]
  have e3 : u * 256 % 18446744073709551616 = 2 ^ 8 * (u % 72057594037927936) := by rw [Nat.mul_comm (2 ^ 8)]; exact Nat.mul_mod_mul_right 256 u 72057594037927936
  rw [e3, Nat.two_pow_add_eq_or_of_lt (show x < 2 ^ 8 by omega)]
theorem sgn_wrap (u : Nat) (h : u < 18446744073709551616) : IntKind.i64.wrap (u : Int) = sgnB u := by
  unfold sgnB
  rw [IntKind.wrap_i64]
  split <;> omega
def NumRelB (n : Nat) (l : List UInt8) (x i : Value) : Prop := ∃ k : Nat, k ≤ n ∧ x = .int .u64 (numB (l.take k) : Int) ∧ i = .int .i64 k
set_option maxRecDepth 100000 in
set_option maxHeartbeats 800000 in
theorem rnumber_c (A : Option Addr) (n c : Nat) (l : List UInt8) (r : Int) (w : World) (h : Bs w w.heap.size A n c l) (hr : sgnB (numB l) = r) (hn : n ≤ 281474976710656) :
    Calls Try.prog 55 #[.slice A n c] w fun e w' => e = .returned (.int .i64 r) ∧ w = w' := by
  have HL := Lib.hid h
  have HR := Lib.hid hr
  clear h hr
  go_enter Try.func55, Try.ntmps55
  go_wp2
  go_loop [3, 8] (fun x i => NumRelB n l x i) (fun _ i => n - (intOf i).toNat)
  case atStart => exact ⟨0, by omega, rfl, rfl⟩
  case round =>
    obtain ⟨k, hk, rfl, rfl⟩ := hrel
    obtain ⟨u, hu⟩ : ∃ u, numB (l.take k) = u := ⟨_, rfl⟩
    have HU := Lib.hid hu
    have hub : u < 18446744073709551616 := by rw [← hu]; exact numB_lt _ 0 (by omega)
    rw [hu]
    clear hu
    by_cases hlt : k < n
    · obtain ⟨g, o, hl, rfl, _, c0⟩ := HL.out.at_ hlt
      have HE := Lib.hid (show numB (l.take (k + 1)) = u * 256 % 18446744073709551616 + l[k].toNat by rw [num_step hl, HU.out])
      obtain ⟨x, hx⟩ : ∃ x : Nat, l[k].toNat = x := ⟨_, rfl⟩
      have hx2 := u8_lt l[k]
      rw [hx] at c0 hx2 HE
      have hor := or_num u x hx2
      have hlt' : (k : Int) < (n : Int) := by omega
      clear hx
      go_wp2
      all_goals
        go_round
        case rel => exact ⟨k + 1, by omega, by rw [HE.out]; go_num, by go_num⟩
        case measure => simp [intOf]; omega
    · have hlt' : ¬ (k : Int) < (n : Int) := by omega
      have HK := Lib.hid (show l.take k = l by rw [List.take_of_length_le (by rw [HL.out.len]; omega)])
      go_wp2
      go_ret
      refine ⟨ret_int ?_, rfl⟩
      rw [← IntWalk.i64_left, sgn_wrap u hub, ← HU.out, HK.out, HR.out]
set_option maxRecDepth 100000 in
set_option maxHeartbeats 800000 in
theorem marked_c (o : Nat) (y : Int) (A : Option Addr) (n c : Nat) (l : List UInt8) (w : World) (h : Bs w w.heap.size A n c l) (hy : y = (o : Int)) (ho : o ≤ 9223372036854775807) (hn : n ≤ 281474976710656) :
    Calls Try.prog 48 #[.slice A n c, .int .i64 y] w fun e w' => e = .returned (.slice (some ⟨w.heap.size, 0, none⟩) 8 8) ∧ Own w' w.heap.size w.heap.size 8 8 (be8 (sumM o l)) ∧ Below w.heap.size w w' := by
  subst hy
  have hu : IntKind.u64.wrap (o : Int) = (o : Int) := by rw [IntKind.wrap_u64]; omega
  have HL := Lib.hid h
  clear h
  go_enter Try.func48, Try.ntmps48
  go_wp2_with fail
  (with_reducible refine (sum_c o _ A n c l _ w.heap.size rfl (by omega) HL.out hn).mono ?_)
  rintro e w' ⟨rfl, rfl⟩
  go_wp2_with fail
  (with_reducible refine (bytes_c _ _ _ rfl).mono ?_)
  rintro e w' ⟨rfl, hO, hB⟩
  go_wp2
  go_ret
  exact ⟨rfl, hO, hB⟩
theorem Try.ptr8 : Try.prog.underlying 89 = some (.pointer 5) := Try.underlying89
theorem Try.cells8 : Try.prog.cellsOf 5 = 1 := by kernel_rfl
set_option maxRecDepth 100000 in
set_option maxHeartbeats 800000 in
theorem liteClone_c (t : List UInt8) (w : World) (ht : t.length ≤ 140737488355328) :
    Calls Try.prog 45 #[.string ⟨t.toArray⟩] w fun e w' => e = .returned (.string ⟨t.toArray⟩) ∧ Below w.heap.size w w' := by
  by_cases h0 : t.length = 0
  · obtain rfl : t = [] := List.eq_nil_of_length_eq_zero h0
    go_enter Try.func45, Try.ntmps45
    go_wp2
    go_ret
    exact ⟨rfl, Below.refl _ _⟩
  · have hne : t ≠ [] := fun e => h0 (by rw [e]; rfl)
    have hz : ((t.length : Int) == 0) = false := by simp; exact hne
    have hpos : (0 : Int) < (t.length : Int) := by omega
    have hmk := run_make_row' (P := Try.prog) 30 5 (.int .u8 0) 1 Try.u42 Try.i8 rfl .i64 .i64 t.length (by omega) (by omega) w
    rw [zeros_made] at hmk
    obtain ⟨M, hM⟩ : ∃ M, (Lib.byteCells (List.replicate t.length 0)).toArray = M := ⟨_, rfl⟩
    have hMs : M.size = t.length := by rw [← hM, List.size_toArray, Lib.byteCells_length, List.length_replicate]
    rw [hM] at hmk
    have hcp := Lib.run_copy_row_string (P := Try.prog) (w.alloc (.cells M 5)) 30 9 3 5 w.heap.size 0 t.length t.length ⟨t.toArray⟩ M 5 Try.u42 Try.sz8 (Blk.new _ _ _) (Nat.le_refl _) (by show 0 + t.length ≤ _; omega)
    have hY : (M.toList.take 0 ++ Lib.byteCells t ++ M.toList.drop (0 + t.length)).toArray = (Lib.byteCells t).toArray := by
      rw [List.take_zero, List.nil_append, List.drop_of_length_le (by rw [Array.length_toList]; omega), List.append_nil]
    have hcp2 := hcp.trans (by show Result.ok _ ((w.alloc (.cells M 5)).setRow w.heap.size (M.toList.take 0 ++ Lib.byteCells t ++ M.toList.drop (0 + t.length)).toArray) = Result.ok (goInt t.length) ((w.alloc (.cells M 5)).setRow w.heap.size (Lib.byteCells t).toArray); rw [hY]; rfl)
    have hR : Row ((w.alloc (.cells M 5)).setRow w.heap.size (Lib.byteCells t).toArray) w.heap.size t := blk_setRow (Blk.new w 5 M) _
    have hUS := Lib.run_unsafeString_row (P := Try.prog) ((w.alloc (.cells M 5)).setRow w.heap.size (Lib.byteCells t).toArray) 89 3 9 5 Try.ptr8 Try.cells8 w.heap.size (Lib.byteCells t).toArray.size (by
        have := hR
        unfold Row Blk at this
        unfold World.shape?
        rw [this]) t hne (by rw [List.size_toArray, Lib.byteCells_length]; exact Nat.le_refl _) (by omega) (fun j x hx => by
        have hj := (List.getElem?_eq_some_iff.1 hx).1
        rw [Addr.add_lit, Blk.cell hR, List.getElem?_toArray, Nat.zero_add, byteCells_get t j hj]
        have := (List.getElem?_eq_some_iff.1 hx).2
        rw [this])
    have HB := Lib.hid (show Below w.heap.size w ((w.alloc (.cells M 5)).setRow w.heap.size (Lib.byteCells t).toArray) from below_setRow ((Below.refl _ _).alloc (Nat.le_refl _) _) (Nat.le_refl _) _)
    clear hM hMs hcp hY hR
    go_enter Try.func45, Try.ntmps45
    go_wp2
    go_ret
    exact ⟨rfl, Lib.below_freeze HB.out (p := ⟨w.heap.size, 0, none⟩) (Nat.le_refl _) _⟩
set_option maxHeartbeats 800000 in
theorem strClone_c (t : List UInt8) (w : World) (ht : t.length ≤ 140737488355328) :
    Calls Try.prog 33 #[.string ⟨t.toArray⟩] w fun e w' => e = .returned (.string ⟨t.toArray⟩) ∧ Below w.heap.size w w' := by
  go_enter Try.func33, Try.ntmps33
  go_wp2_with fail
  (with_reducible refine (liteClone_c t _ ht).mono ?_)
  rintro e w' ⟨rfl, hb⟩
  go_wp2
  go_ret
  exact ⟨rfl, hb⟩
end Go.Proofs.Ytkjckdndkljeeaa

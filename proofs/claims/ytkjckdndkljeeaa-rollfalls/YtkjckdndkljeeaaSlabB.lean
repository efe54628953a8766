/- Package slab: Read, Write. -/
import Derived.Test.YtkjckdndkljeeaaSlabA
import Derived.Test.YtkjckdndkljeeaaOrd
namespace Go.Proofs.Ytkjckdndkljeeaa
open Go.RowKit
/-- b laid over l from place o on. -/
def spl (l : List UInt8) (o : Nat) (b : List UInt8) : List UInt8 := l.take o ++ (b ++ l.drop (o + b.length))
theorem spl_len {l b : List UInt8} {o n : Nat} (hn : l.length = n) (h : o + b.length ≤ n) : (spl l o b).length = n := by
  simp [spl]
  omega
theorem spl_nil (l : List UInt8) (o : Nat) : spl l o [] = l := by simp [spl]
theorem byteCells_spl (l b : List UInt8) (o : Nat) : Lib.byteCells (spl l o b) = (Lib.byteCells l).take o ++ (Lib.byteCells b ++ (Lib.byteCells l).drop (o + (Lib.byteCells b).length)) := by
  unfold spl Lib.byteCells
  simp [List.map_take, List.map_drop]
theorem Try.sz8 : (Try.prog.info? 5).map (·.size) = some 1 := by kernel_rfl
theorem copy_run {w : World} {d : Nat} {l : List UInt8} (hr : Row w d l) (dp sp : Option Addr) (dLen dCap sLen sCap o : Nat) (b : List UInt8) (ty : TypeId) (hn : b.length = Nat.min sLen dLen)
    (hpos : 0 < b.length → dp = some ⟨d, o, none⟩ ∧ ∃ ad, sp = some ad ∧ ∀ j v, (Lib.byteCells b)[j]? = some v → w.cell? (ad.add j) = some v) (hfit : o + b.length ≤ l.length) :
    (Builtin.copy_ #[30, 30] ty #[.slice dp dLen dCap, .slice sp sLen sCap]).run Try.prog w = .ok (goInt b.length) (w.setRow d (Lib.byteCells (spl l o b)).toArray) := by
  by_cases h0 : b.length = 0
  · obtain rfl : b = [] := List.eq_nil_of_length_eq_zero h0
    rw [spl_nil, setRow_self w d _ 5 (0, 0) hr]
    exact run_copy_none (P := Try.prog) w 30 30 ty 5 dp sp dLen dCap sLen sCap Try.u42 Try.sz8 (by simpa using hn.symm)
  · obtain ⟨rfl, ad, rfl, hsrc⟩ := hpos (by omega)
    have := run_copy_row (P := Try.prog) w 30 30 ty 5 d o dLen dCap ad sLen sCap _ 5 (Lib.byteCells b) Try.u42 Try.sz8 hr (by rw [Lib.byteCells_length]; exact hn) hsrc (by simp [Lib.byteCells_length]; exact hfit) (byteCells_ones b)
    rw [this, byteCells_spl, Lib.byteCells_length]
    simp
theorem wpList_copyB {w : World} {ops : Array Oper} {rest : List Oper} {o : Oper} {a : Act} {Q : Exit → Act → World → Prop} (hgd : o.guard = none) (x y : Operand)
    (ho : o.op = .call { callee := .builtin .copy, args := #[x, y], argTypes := #[30, 30] }) (dp sp : Option Addr) (dLen dCap sLen sCap : Nat) (hd : a.eval x = .slice dp dLen dCap) (hs : a.eval y = .slice sp sLen sCap)
    (d off : Nat) (l b : List UInt8) (hr : Row w d l) (hn : b.length = Nat.min sLen dLen)
    (hpos : 0 < b.length → dp = some ⟨d, off, none⟩ ∧ ∃ ad, sp = some ad ∧ ∀ j v, (Lib.byteCells b)[j]? = some v → w.cell? (ad.add j) = some v) (hfit : off + b.length ≤ l.length)
    (h : wpList Try.prog ops Q rest (a.put o.dst (goInt b.length)) (w.setRow d (Lib.byteCells (spl l off b)).toArray)) : wpList Try.prog ops Q (o :: rest) a w := by
  refine wpList_plain hgd fun K hK => ?_
  have hrun := copy_run hr dp sp dLen dCap sLen sCap off b o.type hn hpos hfit
  unfold Oper.wp
  simp [execOp, ho, resolve, invoke, builtin, hd, hs, hrun, Result.andThen]
  exact hK _ _ h
theorem Row.src {w : World} {d : Nat} {l : List UInt8} (h : Row w d l) {a m : Nat} : ∀ j v, (Lib.byteCells ((l.drop a).take m))[j]? = some v → w.cell? ((⟨d, a, none⟩ : Addr).add j) = some v := by
  intro j v hv
  have hj := (List.getElem?_eq_some_iff.1 hv).1
  rw [Lib.byteCells_length, List.length_take, List.length_drop] at hj
  have hl : a + j < l.length := by omega
  rw [byteCells_get _ j (by rw [List.length_take, List.length_drop]; omega)] at hv
  rw [Addr.add_lit, Blk.cell h, List.getElem?_toArray, byteCells_get l (a + j) hl, ← hv]
  simp
theorem spl_all {l b : List UInt8} (h : l.length = b.length) : spl l 0 b = b := by
  unfold spl
  rw [Nat.zero_add, ← h, List.drop_length]
  simp
section
variable {g d n : Nat} {l : List UInt8} {k left torn : Int} {dead cut : Bool} {w : World}
set_option maxRecDepth 100000 in
set_option maxHeartbeats 800000 in
theorem read_no (a m : Int) (h : Sl w g d n l k dead cut left torn) (ha : a ≤ 9223372036854775807) (hβ : okB dead a m n = false) : Calls Try.prog 15 #[.pointer (some ⟨g, 0, none⟩), .int .i64 a, .int .i64 m] w fun e w' => e = .returned (.tuple #[.slice none 0 0, .bool false]) ∧ w = w' := by
  have H := Lib.hid h
  have HO := Lib.hid hβ
  clear h hβ
  go_enter Try.func15, Try.ntmps15
  go_wp2_with fail
  (with_reducible refine (may_c a m false H.out ha HO.out).mono ?_)
  rintro e w' ⟨rfl, rfl⟩
  go_wp2
  go_ret2
  exact ⟨rfl, rfl⟩
set_option maxRecDepth 100000 in
set_option maxHeartbeats 800000 in
theorem read_yes (a m : Nat) (x y : Int) (h : Sl w g d n l k dead cut left torn) (hx : x = (a : Int)) (hy : y = (m : Int)) (hd : dead = false) (hm : a + m ≤ n) : Calls Try.prog 15 #[.pointer (some ⟨g, 0, none⟩), .int .i64 x, .int .i64 y] w fun e w' => e = .returned (.tuple #[.slice (some ⟨w.heap.size, 0, none⟩) m m, .bool true]) ∧ Row w' w.heap.size ((l.drop a).take m) ∧ Below w.heap.size w w' := by
  subst hx hy hd
  have hn := h.2.2.2.2
  have hlen := h.2.2.1
  obtain ⟨lg, c0, c1, c2, c3, c4, c5⟩ := h.cells
  have hok : okB false (a : Int) (m : Int) n = true := by simp [okB]; omega
  have hmk := run_make_row' (P := Try.prog) 30 5 (.int .u8 0) 1 Try.u42 Try.i8 rfl .i64 .i64 m (by omega) (by omega) w
  have HR := Lib.hid (show Row (w.alloc (.cells (madeCells #[Value.int .u8 0] m) 5)) w.heap.size (List.replicate m 0) by
    unfold Row
    rw [zeros_made]
    exact Blk.new _ _ _)
  have HD := Lib.hid (show Row (w.alloc (.cells (madeCells #[Value.int .u8 0] m) 5)) d l from Blk.alloc h.2.1 _)
  have HBl := Lib.hid (show Below w.heap.size w (w.alloc (.cells (madeCells #[Value.int .u8 0] m) 5)) from (Below.refl _ _).alloc (Nat.le_refl _) _)
  have H := Lib.hid h
  have HO := Lib.hid hok
  have a0 : (0 : Int) ≤ (a : Int) := by omega
  have an : (a : Int) ≤ (n : Int) := by omega
  have HM := Lib.hid hm
  have HN := Lib.hid hn
  have HLB := Lib.hid (show ((l.drop a).take m).length = m by rw [List.length_take, List.length_drop]; omega)
  have ha9 : (a : Int) ≤ 9223372036854775807 := by omega
  clear h hok hm hn hlen
  by_cases hc : n = a
  · have HC := Lib.hid hc
    go_enter Try.func15, Try.ntmps15
    go_wp2_with fail
    (with_reducible refine (may_c _ _ true H.out ha9 HO.out).mono ?_)
    rintro e w' ⟨rfl, rfl⟩
    go_wp2_with (with_reducible refine wpList_copyB rfl (.tmp 16) (.tmp 22) rfl _ _ _ _ _ _ rfl rfl w.heap.size 0 (List.replicate m 0) ((l.drop a).take m) HR.out (by show _ = min _ _; rw [HLB.out]; have := HC.out; have := HM.out; omega) (fun h0 => by rw [HLB.out] at h0; have := HC.out; have := HM.out; omega) (by rw [HLB.out, List.length_replicate]; omega) ?_)
    go_ret2
    refine ⟨rfl, ?_, below_setRow HBl.out (Nat.le_refl _) _⟩
    have := blk_setRow HR.out (Lib.byteCells (spl (List.replicate m 0) 0 ((l.drop a).take m))).toArray
    rw [spl_all (by rw [HLB.out, List.length_replicate])] at this ⊢
    exact this
  · have HC := Lib.hid hc
    go_enter Try.func15, Try.ntmps15
    go_wp2_with fail
    (with_reducible refine (may_c _ _ true H.out ha9 HO.out).mono ?_)
    rintro e w' ⟨rfl, rfl⟩
    go_wp2_with (with_reducible refine wpList_copyB rfl (.tmp 16) (.tmp 22) rfl _ _ _ _ _ _ rfl rfl w.heap.size 0 (List.replicate m 0) ((l.drop a).take m) HR.out (by show _ = min _ _; rw [HLB.out]; have := HC.out; have := HM.out; omega) (fun h0 => ⟨rfl, _, rfl, HD.out.src⟩) (by rw [HLB.out, List.length_replicate]; omega) ?_)
    go_ret2
    refine ⟨rfl, ?_, below_setRow HBl.out (Nat.le_refl _) _⟩
    have := blk_setRow HR.out (Lib.byteCells (spl (List.replicate m 0) 0 ((l.drop a).take m))).toArray
    rw [spl_all (by rw [HLB.out, List.length_replicate])] at this ⊢
    exact this
end
end Go.Proofs.Ytkjckdndkljeeaa

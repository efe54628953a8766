/- Package slab: its memory; New, Size, Dead, Writes, Cut, Revive, may. -/
import Derived.Test.YtkjckdndkljeeaaBytesA
import Derived.Test.YtkjckdndkljeeaaBlk
import Derived.Laws.CopyOwn
import Derived.Deep.OwnRows
namespace Go.Proofs.Ytkjckdndkljeeaa
open Go.RowKit
/-- But for the listed blocks all that was there is as it was. -/
structure But (ex : List Nat) (w w' : World) : Prop where
  os : w'.os = w.os
  tape : w'.tape = w.tape
  output : w'.output = w.output
  size : w.heap.size ≤ w'.heap.size
  block : ∀ k, k < w.heap.size → k ∉ ex → w'.heap[k]? = w.heap[k]?
section
variable {w w1 w2 w' : World} {ex : List Nat} {g : Nat} {t : TypeId} {cs : Array Value}
theorem But.refl (ex : List Nat) (w : World) : But ex w w := ⟨rfl, rfl, rfl, Nat.le_refl _, fun _ _ _ => rfl⟩
theorem But.trans (h : But ex w w1) (k : But ex w1 w2) : But ex w w2 :=
  ⟨k.os.trans h.os, k.tape.trans h.tape, k.output.trans h.output, Nat.le_trans h.size k.size, fun i hi hx => (k.block i (Nat.lt_of_lt_of_le hi h.size) hx).trans (h.block i hi hx)⟩
theorem But.of_below (h : Below w.heap.size w w') (ex : List Nat) : But ex w w' := ⟨h.os, h.tape, h.output, h.size, fun k hk _ => h.block k hk⟩
theorem But.below (h : But ex w w') {B : Nat} (hB : B ≤ w.heap.size) (hx : ∀ k ∈ ex, B ≤ k) : Below B w w' :=
  ⟨h.os, h.tape, h.output, h.size, fun k hk => h.block k (by omega) fun hm => by have := hx k hm; omega⟩
theorem But.more (h : But ex w w') {ex' : List Nat} (hs : ∀ k ∈ ex, k ∈ ex') : But ex' w w' := ⟨h.os, h.tape, h.output, h.size, fun k hk hx => h.block k hk fun hm => hx (hs k hm)⟩
theorem But.setCell (h : But ex w w1) {p : Addr} (hp : p.block ∈ ex) (u : Value) : But ex w (w1.setCell p u) :=
  h.trans ⟨rfl, rfl, rfl, by simp [World.setCell], fun k _ hx => Below.heap_setCell _ _ _ _ fun e => hx (e ▸ hp)⟩
theorem But.setRow (h : But ex w w1) {g : Nat} (hp : g ∈ ex) (cs : Array Value) : But ex w (w1.setRow g cs) :=
  h.trans ⟨rfl, rfl, rfl, by simp [World.setRow], fun k _ hx => setRow_other w1 g k cs fun e => hx (e ▸ hp)⟩
theorem But.drew (h : But ex w w1) : But ex w w1.drew := ⟨h.os, h.tape, h.output, h.size, h.block⟩
theorem Blk.but (h : Blk w g t cs) (hb : But ex w w') (hg : g ∉ ex) : Blk w' g t cs := (hb.block g h.lt hg).trans h
theorem Own.but {B n c : Nat} {l : List UInt8} (h : Own w B g n c l) (hb : But ex w w') (hx : g ∉ ex) : Own w' B g n c l := by
  refine ⟨h.1, h.2.1, ?_⟩
  rcases h.2.2 with ⟨e, _⟩ | ⟨g', c', cur, e, hB, hg, rest⟩
  · cases e
  · have hgg : g = g' := by injection e with e; injection e with e; injection e
    subst hgg
    exact .inr ⟨g, c', cur, e, hB, (hb.block g (by have := h.lt; exact this) hx).trans hg, rest⟩
theorem blk_setRow (h : Blk w g t cs) (cs' : Array Value) : Blk (w.setRow g cs') g t cs' := setRow_heap w g cs cs' t (0, 0) h
theorem Blk.farRow (h : Blk w g t cs) {d : Nat} (hd : g ≠ d) (cs' : Array Value) : Blk (w.setRow d cs') g t cs := (setRow_other w d g cs' hd).trans h
end
/-- A row of bytes that fills block g. -/
def Row (w : World) (g : Nat) (l : List UInt8) : Prop := Blk w g 5 (Lib.byteCells l).toArray
theorem Row.bs {w : World} {g : Nat} {l : List UInt8} (h : Row w g l) {n : Nat} (hn : l.length = n) : Bs w w.heap.size (some ⟨g, 0, none⟩) n n l := by
  refine ⟨hn, Nat.le_refl _, (fun e => by cases e), fun _ => ⟨g, 0, rfl, Blk.lt h, fun j hj => ?_⟩⟩
  rw [Nat.zero_add, Blk.cell h, List.getElem?_toArray, byteCells_get l j hj]
theorem Row.own {w : World} {g : Nat} {l : List UInt8} (h : Row w g l) {n B : Nat} (hn : l.length = n) (hB : B ≤ g) (hm : n ≤ 281474976710656) : Own w B g n n l := by
  refine ⟨hn, by rw [Lib.byteCells_length, hn, Nat.mul_one], .inr ⟨g, n, (Lib.byteCells l).toArray, rfl, hB, h, Nat.le_refl _, by unfold maxLen; omega, ?_, ?_⟩⟩
  · simp only [List.size_toArray, Lib.byteCells_length]
    omega
  · simp only
    rw [List.take_of_length_le (by rw [Lib.byteCells_length]; omega)]
/-- A slab: its struct in block g, its bytes in block d. -/
def Sl (w : World) (g d n : Nat) (l : List UInt8) (k : Int) (dead cut : Bool) (left torn : Int) : Prop :=
  Blk w g 64 #[.slice (some ⟨d, 0, none⟩) n n, .int .i64 k, .bool dead, .bool cut, .int .i64 left, .int .i64 torn] ∧ Row w d l ∧ l.length = n ∧ g ≠ d ∧ n ≤ 65536
section
variable {w w' : World} {g d n : Nat} {l : List UInt8} {k left torn : Int} {dead cut : Bool}
theorem Sl.but {ex : List Nat} (h : Sl w g d n l k dead cut left torn) (hb : But ex w w') (hg : g ∉ ex) (hd : d ∉ ex) : Sl w' g d n l k dead cut left torn :=
  ⟨h.1.but hb hg, Blk.but h.2.1 hb hd, h.2.2.1, h.2.2.2.1, h.2.2.2.2⟩
theorem Sl.below (h : Sl w g d n l k dead cut left torn) (hb : Below w.heap.size w w') : Sl w' g d n l k dead cut left torn :=
  h.but (But.of_below hb []) (by simp) (by simp)
theorem Sl.drew (h : Sl w g d n l k dead cut left torn) : Sl w.drew g d n l k dead cut left torn := h
theorem Sl.cells (h : Sl w g d n l k dead cut left torn) : g < w.heap.size ∧ w.cell? ⟨g, 0, none⟩ = some (.slice (some ⟨d, 0, none⟩) n n) ∧ w.cell? ⟨g, 1, none⟩ = some (.int .i64 k) ∧ w.cell? ⟨g, 2, none⟩ = some (.bool dead) ∧
    w.cell? ⟨g, 3, none⟩ = some (.bool cut) ∧ w.cell? ⟨g, 4, none⟩ = some (.int .i64 left) ∧ w.cell? ⟨g, 5, none⟩ = some (.int .i64 torn) := by
  have x0 := h.1.cell 0
  have x1 := h.1.cell 1
  have x2 := h.1.cell 2
  have x3 := h.1.cell 3
  have x4 := h.1.cell 4
  have x5 := h.1.cell 5
  simp at x0 x1 x2 x3 x4 x5
  exact ⟨h.1.lt, x0, x1, x2, x3, x4, x5⟩
theorem Sl.frozen (h : Sl w g d n l k dead cut left torn) : w.frozen? ⟨g, 0, none⟩ = false ∧ w.frozen? ⟨g, 1, none⟩ = false ∧ w.frozen? ⟨g, 2, none⟩ = false ∧ w.frozen? ⟨g, 3, none⟩ = false ∧ w.frozen? ⟨g, 4, none⟩ = false ∧ w.frozen? ⟨g, 5, none⟩ = false :=
  ⟨h.1.frozen 0, h.1.frozen 1, h.1.frozen 2, h.1.frozen 3, h.1.frozen 4, h.1.frozen 5⟩
end
theorem zeros_made (n : Nat) : (madeCells #[Value.int .u8 0] n) = (Lib.byteCells (List.replicate n 0)).toArray := by
  apply Array.toList_inj.1
  rw [toList_madeCells_one]
  simp [Lib.byteCells]
set_option maxRecDepth 100000 in
set_option maxHeartbeats 400000 in
theorem within_c (n lo hi r : Int) (w : World) (hr : min (max n lo) hi = r) : Calls Try.prog 28 #[.int .i64 n, .int .i64 lo, .int .i64 hi] w fun e w' => e = .returned (.int .i64 r) ∧ w = w' := by
  have HR := Lib.hid hr
  clear hr
  go_enter Try.func28, Try.ntmps28
  go_wp2
  all_goals
    go_ret
    exact ⟨ret_int (by have := HR.out; omega), rfl⟩
set_option maxRecDepth 100000 in
set_option maxHeartbeats 800000 in
theorem new_c (n : Int) (m : Nat) (w : World) (hm : min (max n 1) 65536 = (m : Int)) :
    Calls Try.prog 8 #[.int .i64 n] w fun e w' => e = .returned (.pointer (some ⟨w.heap.size + 1, 0, none⟩)) ∧ Sl w' (w.heap.size + 1) w.heap.size m (List.replicate m 0) 0 false false 0 0 ∧ Below w.heap.size w w' := by
  have hm2 : m ≤ 65536 := by omega
  have hmk := run_make_row' (P := Try.prog) 30 5 (.int .u8 0) 1 Try.u42 Try.i8 rfl .i64 .i64 m (by omega) (by omega) w
  have HM := Lib.hid hm
  have HM2 := Lib.hid hm2
  clear hm hm2
  go_enter Try.func8, Try.ntmps8
  go_wp2_with fail
  (with_reducible refine (within_c n 1 65536 _ _ HM.out).mono ?_)
  rintro e w' ⟨rfl, rfl⟩
  go_wp2
  go_ret
  have hB := Blk.new w 5 (madeCells #[Value.int .u8 0] m)
  rw [zeros_made] at hB
  have hS : (w.alloc (.cells (madeCells #[Value.int .u8 0] m) 5)).heap.size = w.heap.size + 1 := by simp
  refine ⟨rfl, ⟨?_, ?_, by simp, by omega, HM2.out⟩, ((Below.refl _ _).alloc (Nat.le_refl _) _).alloc (by simp) _⟩
  · have := Blk.new (w.alloc (.cells (madeCells #[Value.int .u8 0] m) 5)) 64 #[.slice (some ⟨w.heap.size, 0, none⟩) m m, .int .i64 0, .bool false, .bool false, .int .i64 0, .int .i64 0]
    rw [hS] at this
    exact this
  · rw [zeros_made] 
    exact hB.alloc _
section
variable {g d n : Nat} {l : List UInt8} {k left torn : Int} {dead cut : Bool} {w : World}
set_option maxHeartbeats 400000 in
theorem size_c (h : Sl w g d n l k dead cut left torn) : Calls Try.prog 29 #[.pointer (some ⟨g, 0, none⟩)] w fun e w' => e = .returned (.int .i64 n) ∧ w = w' := by
  obtain ⟨lg, c0, c1, c2, c3, c4, c5⟩ := h.cells
  clear h
  go_enter Try.func29, Try.ntmps29
  go_wp2
  go_ret
  exact ⟨rfl, rfl⟩
theorem Sl.set3 {a b c d' e f d'' e' f' : Value} {t : TypeId} {w : World} {g : Nat} (h : Blk w g t #[a, b, c, d', e, f]) : Blk (((w.setCell ⟨g, 3, none⟩ d'').setCell ⟨g, 4, none⟩ e').setCell ⟨g, 5, none⟩ f') g t #[a, b, c, d'', e', f'] := ((h.set_ 3 d'').set_ 4 e').set_ 5 f'
set_option maxHeartbeats 400000 in
theorem cut_c (m t : Int) (β : Bool) (h : Sl w g d n l k dead cut left torn) (hβ : decide (0 ≤ m) = β) : Calls Try.prog 12 #[.pointer (some ⟨g, 0, none⟩), .int .i64 m, .int .i64 t] w fun e w' => e = .returned (.tuple #[]) ∧ Sl w' g d n l k dead β m t ∧ But [g] w w' := by
  obtain ⟨lg, c0, c1, c2, c3, c4, c5⟩ := h.cells
  obtain ⟨f0, f1, f2, f3, f4, f5⟩ := h.frozen
  have H := Lib.hid h
  clear h
  go_enter Try.func12, Try.ntmps12
  go_wp2
  go_end0
  refine ⟨rfl, ⟨Sl.set3 H.out.1, ?_, H.out.2.2⟩, (((But.refl [g] w).setCell (p := ⟨g, 3, none⟩) (by simp) _).setCell (p := ⟨g, 4, none⟩) (by simp) _).setCell (p := ⟨g, 5, none⟩) (by simp) _⟩
  exact ((Blk.far H.out.2.1 (p := ⟨g, 3, none⟩) H.out.2.2.2.1.symm _).far (p := ⟨g, 4, none⟩) H.out.2.2.2.1.symm _).far (p := ⟨g, 5, none⟩) H.out.2.2.2.1.symm _
set_option maxHeartbeats 400000 in
theorem revive_c (h : Sl w g d n l k dead cut left torn) : Calls Try.prog 14 #[.pointer (some ⟨g, 0, none⟩)] w fun e w' => e = .returned (.tuple #[]) ∧ Sl w' g d n l k false false left torn ∧ But [g] w w' := by
  obtain ⟨lg, c0, c1, c2, c3, c4, c5⟩ := h.cells
  obtain ⟨f0, f1, f2, f3, f4, f5⟩ := h.frozen
  have H := Lib.hid h
  clear h
  go_enter Try.func14, Try.ntmps14
  go_wp2
  go_end0
  refine ⟨rfl, ⟨(H.out.1.set_ 2 _).set_ 3 _, ?_, H.out.2.2⟩, ((But.refl [g] w).setCell (p := ⟨g, 2, none⟩) (by simp) _).setCell (p := ⟨g, 3, none⟩) (by simp) _⟩
  exact (Blk.far H.out.2.1 (p := ⟨g, 2, none⟩) H.out.2.2.2.1.symm _).far (p := ⟨g, 3, none⟩) H.out.2.2.2.1.symm _
/-- If n bytes from at on can be got at. -/
def okB (dead : Bool) (a m : Int) (n : Nat) : Bool := !dead && decide (0 ≤ a) && decide (0 ≤ m) && decide (m ≤ (n : Int) - a)
set_option maxRecDepth 100000 in
set_option maxHeartbeats 800000 in
theorem may_c (a m : Int) (β : Bool) (h : Sl w g d n l k dead cut left torn) (ha : a ≤ 9223372036854775807) (hβ : okB dead a m n = β) : Calls Try.prog 37 #[.pointer (some ⟨g, 0, none⟩), .int .i64 a, .int .i64 m] w fun e w' => e = .returned (.bool β) ∧ w = w' := by
  obtain ⟨lg, c0, c1, c2, c3, c4, c5⟩ := h.cells
  have hn := h.2.2.2.2
  clear h
  subst hβ
  unfold okB
  cases dead with
  | true =>
    go_enter Try.func37, Try.ntmps37
    go_wp2
    go_ret
    exact ⟨rfl, rfl⟩
  | false =>
    by_cases h1 : a < 0
    · have e1 : decide (0 ≤ a) = false := by simp; omega
      go_enter Try.func37, Try.ntmps37
      go_wp2
      go_ret
      exact ⟨by rw [e1]; rfl, rfl⟩
    · by_cases h2 : m < 0
      · have e1 : decide (0 ≤ m) = false := by simp; omega
        go_enter Try.func37, Try.ntmps37
        go_wp2
        go_ret
        exact ⟨rfl, rfl⟩
      · have e1 : decide (0 ≤ m) = true := by simp; omega
        have e2 : decide (0 ≤ a) = true := by simp; omega
        rw [e1, e2]
        clear e1 e2
        go_enter Try.func37, Try.ntmps37
        go_wp2
        go_ret
        exact ⟨rfl, rfl⟩
end
end Go.Proofs.Ytkjckdndkljeeaa

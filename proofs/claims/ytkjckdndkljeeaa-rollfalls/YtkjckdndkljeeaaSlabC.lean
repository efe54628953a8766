/- Package slab, and its other in pyxref4: Write; the other's small methods. -/
import Derived.Test.YtkjckdndkljeeaaSlabB
import Derived.Deep.CutBlock
import Derived.Deep.DeepCutAuto
namespace Go.Proofs.Ytkjckdndkljeeaa
open Go.RowKit
theorem Bs.put {w : World} {B m c : Nat} {A : Option Addr} {b : List UInt8} (hb : Bs w B A m c b) {p : Addr} (hp : ∀ x, w.cell? p ≠ some (.int .u8 x)) (u : Value) : Bs (w.setCell p u) B A m c b := by
  refine ⟨hb.1, hb.2.1, hb.2.2.1, fun h0 => ?_⟩
  obtain ⟨g, o, e, hg, hc⟩ := hb.2.2.2 h0
  refine ⟨g, o, e, hg, fun j hj => ?_⟩
  rw [World.cell?_setCell_other w p ⟨g, o + j, none⟩ _ (fun he => hp _ (he ▸ hc j hj)), hc j hj]
theorem Bs.srcs {w : World} {B m c : Nat} {A : Option Addr} {b : List UInt8} (hb : Bs w B A m c b) {q : Nat} (hq : q ≤ m) : 0 < (b.take q).length → ∃ ad, A = some ad ∧ ∀ j v, (Lib.byteCells (b.take q))[j]? = some v → w.cell? (ad.add j) = some v := by
  intro h0
  obtain ⟨g, o, e, hg, hc⟩ := (hb.head hq).2.2.2 (by rw [List.length_take] at h0; omega)
  refine ⟨_, e, fun j v hv => ?_⟩
  have hj := (List.getElem?_eq_some_iff.1 hv).1
  rw [Lib.byteCells_length] at hj
  rw [byteCells_get _ j hj] at hv
  rw [Addr.add_lit, hc j hj, ← hv]
theorem Bs.srcsA {w : World} {B m c : Nat} {A : Option Addr} {b : List UInt8} (hb : Bs w B A m c b) : 0 < b.length → ∃ ad, A = some ad ∧ ∀ j v, (Lib.byteCells b)[j]? = some v → w.cell? (ad.add j) = some v := by
  have := hb.srcs (Nat.le_refl m)
  rwa [List.take_of_length_le (by rw [hb.len]; exact Nat.le_refl _)] at this
theorem copyb_run {o : Oper} {a : Act} {w w' : World} {x y : Operand} {u v : Value} {r : Value} (ho : o.op = .call { callee := .builtin .copy, args := #[x, y], argTypes := #[30, 30] }) (hx : a.eval x = u) (hy : a.eval y = v)
    (hrun : (Builtin.copy_ #[30, 30] o.type #[u, v]).run Try.prog w = .ok r w') : (execOp a.eval o).run Try.prog w = .ok (.value r) w' := by
  simp [execOp, ho, resolve, invoke, builtin, hx, hy, hrun, Result.andThen]
/-- The other slab: its struct in block g, its bytes in block d. -/
def Rs (w : World) (g d n : Nat) (l : List UInt8) (left torn : Int) (dead : Bool) (k : Int) : Prop :=
  Blk w g 53 #[.slice (some ⟨d, 0, none⟩) n n, .int .i64 left, .int .i64 torn, .bool dead, .int .i64 k] ∧ Row w d l ∧ l.length = n ∧ g ≠ d ∧ n ≤ 65536
section
variable {w w' : World} {g d n : Nat} {l : List UInt8} {k left torn : Int} {dead : Bool}
theorem Rs.but {ex : List Nat} (h : Rs w g d n l left torn dead k) (hb : But ex w w') (hg : g ∉ ex) (hd : d ∉ ex) : Rs w' g d n l left torn dead k :=
  ⟨h.1.but hb hg, Blk.but h.2.1 hb hd, h.2.2.1, h.2.2.2.1, h.2.2.2.2⟩
theorem Rs.below (h : Rs w g d n l left torn dead k) (hb : Below w.heap.size w w') : Rs w' g d n l left torn dead k :=
  h.but (But.of_below hb []) (by simp) (by simp)
theorem Rs.cells (h : Rs w g d n l left torn dead k) : g < w.heap.size ∧ w.cell? ⟨g, 0, none⟩ = some (.slice (some ⟨d, 0, none⟩) n n) ∧ w.cell? ⟨g, 1, none⟩ = some (.int .i64 left) ∧ w.cell? ⟨g, 2, none⟩ = some (.int .i64 torn) ∧
    w.cell? ⟨g, 3, none⟩ = some (.bool dead) ∧ w.cell? ⟨g, 4, none⟩ = some (.int .i64 k) := by
  have x0 := h.1.cell 0
  have x1 := h.1.cell 1
  have x2 := h.1.cell 2
  have x3 := h.1.cell 3
  have x4 := h.1.cell 4
  simp at x0 x1 x2 x3 x4
  exact ⟨h.1.lt, x0, x1, x2, x3, x4⟩
theorem Rs.frozen (h : Rs w g d n l left torn dead k) : w.frozen? ⟨g, 0, none⟩ = false ∧ w.frozen? ⟨g, 1, none⟩ = false ∧ w.frozen? ⟨g, 2, none⟩ = false ∧ w.frozen? ⟨g, 3, none⟩ = false ∧ w.frozen? ⟨g, 4, none⟩ = false :=
  ⟨h.1.frozen 0, h.1.frozen 1, h.1.frozen 2, h.1.frozen 3, h.1.frozen 4⟩
end
section
variable {w : World} {g d n : Nat} {l : List UInt8} {k left torn : Int} {dead cut : Bool}
set_option maxRecDepth 100000 in
set_option maxHeartbeats 400000 in
theorem refWithin_c (n lo hi r : Int) (w : World) (hr : max lo (min hi n) = r) : Calls Try.prog 38 #[.int .i64 n, .int .i64 lo, .int .i64 hi] w fun e w' => e = .returned (.int .i64 r) ∧ w = w' := by
  have HR := Lib.hid hr
  clear hr
  go_enter Try.func38, Try.ntmps38
  go_wp2
  all_goals
    go_ret
    exact ⟨ret_int (by have := HR.out; omega), rfl⟩
set_option maxRecDepth 100000 in
set_option maxHeartbeats 800000 in
theorem refNew_c (n : Int) (m : Nat) (w : World) (hm : min (max n 1) 65536 = (m : Int)) :
    Calls Try.prog 18 #[.int .i64 n] w fun e w' => e = .returned (.pointer (some ⟨w.heap.size + 1, 0, none⟩)) ∧ Rs w' (w.heap.size + 1) w.heap.size m (List.replicate m 0) (-1) 0 false 0 ∧ Below w.heap.size w w' := by
  have hm2 : m ≤ 65536 := by omega
  have hmk := run_make_row' (P := Try.prog) 30 5 (.int .u8 0) 1 Try.u42 Try.i8 rfl .i64 .i64 m (by omega) (by omega) w
  have HM := Lib.hid (show max 1 (min 65536 n) = (m : Int) by omega)
  have HM2 := Lib.hid hm2
  clear hm hm2
  go_enter Try.func18, Try.ntmps18
  go_wp2_with fail
  (with_reducible refine (refWithin_c n 1 65536 _ _ HM.out).mono ?_)
  rintro e w' ⟨rfl, rfl⟩
  go_wp2
  go_ret
  have hB := Blk.new w 5 (madeCells #[Value.int .u8 0] m)
  rw [zeros_made] at hB
  have hS : (w.alloc (.cells (madeCells #[Value.int .u8 0] m) 5)).heap.size = w.heap.size + 1 := by simp
  refine ⟨rfl, ⟨?_, ?_, by simp, by omega, HM2.out⟩, ((Below.refl _ _).alloc (Nat.le_refl _) _).alloc (by simp) _⟩
  · have := Blk.new (w.alloc (.cells (madeCells #[Value.int .u8 0] m) 5)) 53 #[.slice (some ⟨w.heap.size, 0, none⟩) m m, .int .i64 (-1), .int .i64 0, .bool false, .int .i64 0]
    rw [hS] at this
    exact this
  · rw [zeros_made]
    exact hB.alloc _
set_option maxHeartbeats 400000 in
theorem refCut_c (m t r : Int) (h : Rs w g d n l left torn dead k) (hr : max (-1) m = r) : Calls Try.prog 23 #[.pointer (some ⟨g, 0, none⟩), .int .i64 m, .int .i64 t] w fun e w' => e = .returned (.tuple #[]) ∧ Rs w' g d n l r t dead k ∧ But [g] w w' := by
  obtain ⟨lg, c0, c1, c2, c3, c4⟩ := h.cells
  obtain ⟨f0, f1, f2, f3, f4⟩ := h.frozen
  have H := Lib.hid h
  have HR := Lib.hid hr
  clear h hr
  rcases (show (m ≤ -1 ∧ r = -1) ∨ (-1 < m ∧ r = m) by have := HR.out; omega) with ⟨h1, rfl⟩ | ⟨h1, rfl⟩
  all_goals
    go_enter Try.func23, Try.ntmps23
    go_wp2
    all_goals first | (exfalso; omega) | skip
    go_end0
    refine ⟨rfl, ⟨(H.out.1.set_ 1 _).set_ 2 _, ?_, H.out.2.2⟩, ((But.refl [g] w).setCell (p := ⟨g, 1, none⟩) (by simp) _).setCell (p := ⟨g, 2, none⟩) (by simp) _⟩
    exact (Blk.far H.out.2.1 (p := ⟨g, 1, none⟩) H.out.2.2.2.1.symm _).far (p := ⟨g, 2, none⟩) H.out.2.2.2.1.symm _
set_option maxHeartbeats 400000 in
theorem refRevive_c (h : Rs w g d n l left torn dead k) : Calls Try.prog 24 #[.pointer (some ⟨g, 0, none⟩)] w fun e w' => e = .returned (.tuple #[]) ∧ Rs w' g d n l (-1) torn false k ∧ But [g] w w' := by
  obtain ⟨lg, c0, c1, c2, c3, c4⟩ := h.cells
  obtain ⟨f0, f1, f2, f3, f4⟩ := h.frozen
  have H := Lib.hid h
  clear h
  go_enter Try.func24, Try.ntmps24
  go_wp2
  go_end0
  refine ⟨rfl, ⟨(H.out.1.set_ 3 _).set_ 1 _, ?_, H.out.2.2⟩, ((But.refl [g] w).setCell (p := ⟨g, 3, none⟩) (by simp) _).setCell (p := ⟨g, 1, none⟩) (by simp) _⟩
  exact (Blk.far H.out.2.1 (p := ⟨g, 3, none⟩) H.out.2.2.2.1.symm _).far (p := ⟨g, 1, none⟩) H.out.2.2.2.1.symm _
set_option maxRecDepth 100000 in
set_option maxHeartbeats 1600000 in
theorem there_c (a m : Int) (β : Bool) (h : Rs w g d n l left torn dead k) (ha : a ≤ 9223372036854775807) (hβ : okB dead a m n = β) : Calls Try.prog 39 #[.pointer (some ⟨g, 0, none⟩), .int .i64 a, .int .i64 m] w fun e w' => e = .returned (.bool β) ∧ w = w' := by
  obtain ⟨lg, c0, c1, c2, c3, c4⟩ := h.cells
  have hn := h.2.2.2.2
  have HB := Lib.hid hβ
  clear h hβ
  cases dead with
  | true =>
    obtain rfl : β = false := by rw [← HB.out]; simp [okB]
    go_enter Try.func39, Try.ntmps39
    go_wp2
    go_ret
    exact ⟨rfl, rfl⟩
  | false =>
    by_cases h1 : 0 ≤ a
    · by_cases h2 : a ≤ (n : Int)
      · by_cases h3 : 0 ≤ m
        · by_cases h4 : m ≤ (n : Int) - a
          · obtain rfl : β = true := by rw [← HB.out]; simp [okB]; omega
            go_enter Try.func39, Try.ntmps39
            go_wp2
            go_ret
            exact ⟨rfl, rfl⟩
          · obtain rfl : β = false := by rw [← HB.out]; simp [okB]; omega
            go_enter Try.func39, Try.ntmps39
            go_wp2
            go_ret
            exact ⟨rfl, rfl⟩
        · obtain rfl : β = false := by rw [← HB.out]; simp [okB]; omega
          go_enter Try.func39, Try.ntmps39
          go_wp2
          go_ret
          exact ⟨rfl, rfl⟩
      · obtain rfl : β = false := by rw [← HB.out]; simp [okB]; omega
        go_enter Try.func39, Try.ntmps39
        go_wp2
        go_ret
        exact ⟨rfl, rfl⟩
    · obtain rfl : β = false := by rw [← HB.out]; simp [okB]; omega
      go_enter Try.func39, Try.ntmps39
      go_wp2
      go_ret
      exact ⟨rfl, rfl⟩
set_option maxRecDepth 100000 in
set_option maxHeartbeats 800000 in
theorem write_no (a : Int) (A : Option Addr) (m c : Nat) (h : Sl w g d n l k dead cut left torn) (ha : a ≤ 9223372036854775807) (hβ : okB dead a (m : Int) n = false) : Calls Try.prog 20 #[.pointer (some ⟨g, 0, none⟩), .int .i64 a, .slice A m c] w fun e w' => e = .returned (.bool false) ∧ w = w' := by
  have H := Lib.hid h
  have HO := Lib.hid hβ
  clear h hβ
  go_enter Try.func20, Try.ntmps20
  go_wp2_with fail
  (with_reducible refine (may_c a (m : Int) false H.out ha HO.out).mono ?_)
  rintro e w' ⟨rfl, rfl⟩
  go_wp2
  go_ret
  exact ⟨rfl, rfl⟩
set_option maxRecDepth 100000 in
set_option maxHeartbeats 1600000 in
theorem write_free (a : Nat) (x : Int) (A : Option Addr) (m c : Nat) (b : List UInt8) (h : Sl w g d n l k dead cut left torn) (hb : Bs w w.heap.size A m c b) (hx : x = (a : Int)) (hd : dead = false) (hc : cut = false) (hm : a + m ≤ n) (hk0 : 0 ≤ k) (hk : k < 4611686018427387904) :
    Calls Try.prog 20 #[.pointer (some ⟨g, 0, none⟩), .int .i64 x, .slice A m c] w fun e w' => e = .returned (.bool true) ∧ Sl w' g d n (spl l a b) (k + 1) false false left torn ∧ But [g, d] w w' := by
  subst hx hd hc
  have hn := h.2.2.2.2
  have hlen := h.2.2.1
  obtain ⟨lg, c0, c1, c2, c3, c4, c5⟩ := h.cells
  obtain ⟨f0, f1, f2, f3, f4, f5⟩ := h.frozen
  have hok : okB false (a : Int) (m : Int) n = true := by simp [okB]; omega
  have a0 : (0 : Int) ≤ (a : Int) := by omega
  have an : (a : Int) ≤ (n : Int) := by omega
  have ha9 : (a : Int) ≤ 9223372036854775807 := by omega
  have HD := Lib.hid (show Row (w.setCell ⟨g, 1, none⟩ (.int .i64 (k + 1))) d l from (Blk.far h.2.1 (p := ⟨g, 1, none⟩) h.2.2.2.1.symm _))
  have HS := Lib.hid (show Bs (w.setCell ⟨g, 1, none⟩ (.int .i64 (k + 1))) w.heap.size A m c b from (hb.put (p := ⟨g, 1, none⟩) (by intro x; rw [c1]; simp) _))
  have HBt := Lib.hid (show But [g, d] w (w.setCell ⟨g, 1, none⟩ (.int .i64 (k + 1))) from ((But.refl [g, d] w).setCell (p := ⟨g, 1, none⟩) (by simp) _))
  have H := Lib.hid h
  have HO := Lib.hid hok
  have HM := Lib.hid hm
  have HLB := Lib.hid hb.len
  have HL := Lib.hid hlen
  clear h hok hm hn hlen hb
  by_cases hca : n = a
  all_goals
    have HC := Lib.hid hca
    go_enter Try.func20, Try.ntmps20
    go_wp2_with fail
    (with_reducible refine (may_c _ _ true H.out ha9 HO.out).mono ?_)
    rintro e w' ⟨rfl, rfl⟩
    go_wp2_with (with_reducible refine wpList_copyB rfl (.tmp 66) (.tmp 67) rfl _ _ _ _ _ _ rfl rfl d a l b HD.out (by show _ = min _ _; rw [HLB.out]; have := HC.out; have := HM.out; omega) (fun h0 => ⟨by first | rfl | (exfalso; rw [HLB.out] at h0; have := HC.out; have := HM.out; omega), HS.out.srcsA h0⟩) (by rw [HLB.out, HL.out]; exact HM.out) ?_)
    go_ret
    exact ⟨rfl, ⟨Blk.farRow (H.out.1.set_ 1 (.int .i64 (k + 1))) H.out.2.2.2.1 _, blk_setRow HD.out _, spl_len HL.out (by rw [HLB.out]; exact HM.out), H.out.2.2.2.1, H.out.2.2.2.2⟩, HBt.out.setRow (by simp) _⟩
set_option maxRecDepth 100000 in
set_option maxHeartbeats 1600000 in
theorem write_less (a : Nat) (x : Int) (A : Option Addr) (m c : Nat) (b : List UInt8) (h : Sl w g d n l k dead cut left torn) (hb : Bs w w.heap.size A m c b) (hx : x = (a : Int)) (hd : dead = false) (hc : cut = true) (hl : 0 < left) (hm : a + m ≤ n) (hk0 : 0 ≤ k) (hk : k < 4611686018427387904) (hlm : left ≤ 9223372036854775807) :
    Calls Try.prog 20 #[.pointer (some ⟨g, 0, none⟩), .int .i64 x, .slice A m c] w fun e w' => e = .returned (.bool true) ∧ Sl w' g d n (spl l a b) (k + 1) false true (left - 1) torn ∧ But [g, d] w w' := by
  subst hx hd hc
  have hn := h.2.2.2.2
  have hlen := h.2.2.1
  obtain ⟨lg, c0, c1, c2, c3, c4, c5⟩ := h.cells
  obtain ⟨f0, f1, f2, f3, f4, f5⟩ := h.frozen
  have hok : okB false (a : Int) (m : Int) n = true := by simp [okB]; omega
  have hlz : (left == 0) = false := by simp; omega
  have hl9 : -9223372036854775808 ≤ left - 1 := by omega
  have a0 : (0 : Int) ≤ (a : Int) := by omega
  have an : (a : Int) ≤ (n : Int) := by omega
  have ha9 : (a : Int) ≤ 9223372036854775807 := by omega
  have HD := Lib.hid (show Row ((w.setCell ⟨g, 1, none⟩ (.int .i64 (k + 1))).setCell ⟨g, 4, none⟩ (.int .i64 (left - 1))) d l from ((Blk.far h.2.1 (p := ⟨g, 1, none⟩) h.2.2.2.1.symm _).far (p := ⟨g, 4, none⟩) h.2.2.2.1.symm _))
  have HS := Lib.hid (show Bs ((w.setCell ⟨g, 1, none⟩ (.int .i64 (k + 1))).setCell ⟨g, 4, none⟩ (.int .i64 (left - 1))) w.heap.size A m c b from ((hb.put (p := ⟨g, 1, none⟩) (by intro x; rw [c1]; simp) _).put (p := ⟨g, 4, none⟩) (by intro x; rw [World.cell?_setCell_other _ _ _ _ (by simp), c4]; simp) _))
  have HBt := Lib.hid (show But [g, d] w ((w.setCell ⟨g, 1, none⟩ (.int .i64 (k + 1))).setCell ⟨g, 4, none⟩ (.int .i64 (left - 1))) from (((But.refl [g, d] w).setCell (p := ⟨g, 1, none⟩) (by simp) _).setCell (p := ⟨g, 4, none⟩) (by simp) _))
  have H := Lib.hid h
  have HO := Lib.hid hok
  have HM := Lib.hid hm
  have HLB := Lib.hid hb.len
  have HL := Lib.hid hlen
  clear h hok hm hn hlen hb
  by_cases hca : n = a
  all_goals
    have HC := Lib.hid hca
    go_enter Try.func20, Try.ntmps20
    go_wp2_with fail
    (with_reducible refine (may_c _ _ true H.out ha9 HO.out).mono ?_)
    rintro e w' ⟨rfl, rfl⟩
    go_wp2_with (with_reducible refine wpList_copyB rfl (.tmp 66) (.tmp 67) rfl _ _ _ _ _ _ rfl rfl d a l b HD.out (by show _ = min _ _; rw [HLB.out]; have := HC.out; have := HM.out; omega) (fun h0 => ⟨by first | rfl | (exfalso; rw [HLB.out] at h0; have := HC.out; have := HM.out; omega), HS.out.srcsA h0⟩) (by rw [HLB.out, HL.out]; exact HM.out) ?_)
    go_ret
    exact ⟨rfl, ⟨Blk.farRow ((H.out.1.set_ 1 (.int .i64 (k + 1))).set_ 4 (.int .i64 (left - 1))) H.out.2.2.2.1 _, blk_setRow HD.out _, spl_len HL.out (by rw [HLB.out]; exact HM.out), H.out.2.2.2.1, H.out.2.2.2.2⟩, HBt.out.setRow (by simp) _⟩
set_option maxRecDepth 100000 in
set_option maxHeartbeats 3200000 in
theorem write_torn (a q : Nat) (x : Int) (A : Option Addr) (m c : Nat) (b : List UInt8) (h : Sl w g d n l k dead cut left torn) (hb : Bs w w.heap.size A m c b) (hx : x = (a : Int)) (hd : dead = false) (hc : cut = true) (hl : left = 0) (hm : a + m ≤ n) (hk0 : 0 ≤ k) (hk : k < 4611686018427387904) (hq : min (max torn 0) (m : Int) = (q : Int)) :
    Calls Try.prog 20 #[.pointer (some ⟨g, 0, none⟩), .int .i64 x, .slice A m c] w fun e w' => e = .returned (.bool false) ∧ Sl w' g d n (spl l a (b.take q)) (k + 1) true true 0 torn ∧ But [g, d] w w' := by
  subst hx hd hc hl
  have hn := h.2.2.2.2
  have hlen := h.2.2.1
  have hroom := hb.room
  obtain ⟨lg, c0, c1, c2, c3, c4, c5⟩ := h.cells
  obtain ⟨f0, f1, f2, f3, f4, f5⟩ := h.frozen
  have hok : okB false (a : Int) (m : Int) n = true := by simp [okB]; omega
  have a0 : (0 : Int) ≤ (a : Int) := by omega
  have an : (a : Int) ≤ (n : Int) := by omega
  have ha9 : (a : Int) ≤ 9223372036854775807 := by omega
  have q0 : (0 : Int) ≤ (q : Int) := by omega
  have qc : (q : Int) ≤ (c : Int) := by omega
  have HD := Lib.hid (show Row (w.setCell ⟨g, 1, none⟩ (.int .i64 (k + 1))) d l from (Blk.far h.2.1 (p := ⟨g, 1, none⟩) h.2.2.2.1.symm _))
  have HS := Lib.hid (show Bs (w.setCell ⟨g, 1, none⟩ (.int .i64 (k + 1))) w.heap.size A m c b from hb.put (p := ⟨g, 1, none⟩) (by intro x; rw [c1]; simp) _)
  have HBt := Lib.hid (show But [g, d] w (w.setCell ⟨g, 1, none⟩ (.int .i64 (k + 1))) from (But.refl [g, d] w).setCell (p := ⟨g, 1, none⟩) (by simp) _)
  have HBk := Lib.hid (show Blk (w.setCell ⟨g, 1, none⟩ (.int .i64 (k + 1))) g 64 #[.slice (some ⟨d, 0, none⟩) n n, .int .i64 (k + 1), .bool false, .bool true, .int .i64 0, .int .i64 torn] from h.1.set_ 1 _)
  have HQ := Lib.hid (show min (max torn 0) (m : Int) = (q : Int) by omega)
  have HQm := Lib.hid (show q ≤ m by omega)
  have H := Lib.hid h
  have HO := Lib.hid hok
  have HM := Lib.hid hm
  have HLB := Lib.hid (show (b.take q).length = q by rw [List.length_take, hb.len]; omega)
  have HL := Lib.hid hlen
  have HN := Lib.hid (show A = none → c = 0 from hb.2.2.1)
  clear h hok hm hn hlen hb hq hroom
  by_cases hca : n = a
  all_goals
    have HC := Lib.hid hca
    go_enter Try.func20, Try.ntmps20
    go_wp2_with fail
    (with_reducible refine (may_c _ _ true H.out ha9 HO.out).mono ?_)
    rintro e w' ⟨rfl, rfl⟩
    go_upto_region 5 with fail
    revert HD HS HBt HBk
    generalize (w.setCell ⟨g, 1, none⟩ (.int .i64 (k + 1))) = W
    intro HD HS HBt HBk
    refine wp_region_ord (S := fun V => Blk V g 64 #[.slice (some ⟨d, 0, none⟩) n n, .int .i64 (k + 1), .bool false, .bool true, .int .i64 0, .int .i64 torn]) (by kernel_rfl) ?_
    refine ord_take (v := ?_) (i := 0) (fuel := 15) (by simp; rfl) (by kernel_rfl) (by kernel_rfl) (by kernel_rfl) (Or.inl ⟨by rfl, fun w' hSw => ?_⟩) HBk.out ?_
    rotate_left
    · go_simp
      all_goals with_reducible rfl
    simp only [Act.put, List.setIfInBounds_toArray, List.set_cons_zero, List.set_cons_succ]
    refine ord_take (v := ?_) (i := 1) (fuel := 14) (by simp; rfl) (by kernel_rfl) (by kernel_rfl) (by kernel_rfl) (Or.inl ⟨by rfl, fun w' hSw => ?_⟩) HBk.out ?_
    rotate_left
    · go_simp
      all_goals with_reducible rfl
    simp only [Act.put, List.setIfInBounds_toArray, List.set_cons_zero, List.set_cons_succ]
    refine ord_take (v := ?_) (i := 2) (fuel := 13) (by simp; rfl) (by kernel_rfl) (by kernel_rfl) (by kernel_rfl) (Or.inl ⟨by rfl, fun w' hSw => ?_⟩) HBk.out ?_
    rotate_left
    · go_simp
      all_goals with_reducible rfl
    simp only [Act.put, List.setIfInBounds_toArray, List.set_cons_zero, List.set_cons_succ]
    refine ord_take (v := ?_) (i := 3) (fuel := 12) (by simp; rfl) (by kernel_rfl) (by kernel_rfl) (by kernel_rfl) (Or.inl ⟨by rfl, fun w' hSw => ?_⟩) HBk.out ?_
    rotate_left
    · have cc := Blk.cell hSw 0
      simp only [List.getElem?_toArray] at cc
      have cc2 : w'.cell? ⟨g, 0, none⟩ = _ := cc
      simp at cc2
      clear cc
      go_simp
      all_goals with_reducible rfl
    simp only [Act.put, List.setIfInBounds_toArray, List.set_cons_zero, List.set_cons_succ]
    refine ord_take (v := ?_) (i := 4) (fuel := 11) (by simp; rfl) (by kernel_rfl) (by kernel_rfl) (by kernel_rfl) (Or.inl ⟨by rfl, fun w' hSw => ?_⟩) HBk.out ?_
    rotate_left
    · go_simp
      all_goals with_reducible rfl
    simp only [Act.put, List.setIfInBounds_toArray, List.set_cons_zero, List.set_cons_succ]
    refine ord_take (v := ?_) (i := 5) (fuel := 10) (by simp; rfl) (by kernel_rfl) (by kernel_rfl) (by kernel_rfl) (Or.inl ⟨by rfl, fun w' hSw => ?_⟩) HBk.out ?_
    rotate_left
    · go_simp
      all_goals with_reducible rfl
    simp only [Act.put, List.setIfInBounds_toArray, List.set_cons_zero, List.set_cons_succ]
    refine ord_take (v := ?_) (i := 6) (fuel := 9) (by simp; rfl) (by kernel_rfl) (by kernel_rfl) (by kernel_rfl) (Or.inl ⟨by rfl, fun w' hSw => ?_⟩) HBk.out ?_
    rotate_left
    · go_simp
      all_goals with_reducible rfl
    simp only [Act.put, List.setIfInBounds_toArray, List.set_cons_zero, List.set_cons_succ]
    refine ord_take (v := ?_) (i := 7) (fuel := 8) (by simp; rfl) (by kernel_rfl) (by kernel_rfl) (by kernel_rfl) (Or.inl ⟨by rfl, fun w' hSw => ?_⟩) HBk.out ?_
    rotate_left
    · go_simp
      all_goals with_reducible rfl
    simp only [Act.put, List.setIfInBounds_toArray, List.set_cons_zero, List.set_cons_succ]
    refine ord_take (v := ?_) (i := 8) (fuel := 7) (by simp; rfl) (by kernel_rfl) (by kernel_rfl) (by kernel_rfl) (Or.inl ⟨by rfl, fun w' hSw => ?_⟩) HBk.out ?_
    rotate_left
    · go_simp
      all_goals with_reducible rfl
    simp only [Act.put, List.setIfInBounds_toArray, List.set_cons_zero, List.set_cons_succ]
    refine ord_take (v := ?_) (i := 9) (fuel := 6) (by simp; rfl) (by kernel_rfl) (by kernel_rfl) (by kernel_rfl) (Or.inl ⟨by rfl, fun w' hSw => ?_⟩) HBk.out ?_
    rotate_left
    · go_simp
      all_goals with_reducible rfl
    simp only [Act.put, List.setIfInBounds_toArray, List.set_cons_zero, List.set_cons_succ]
    refine ord_take (v := ?_) (i := 10) (fuel := 5) (by simp; rfl) (by kernel_rfl) (by kernel_rfl) (by kernel_rfl) (Or.inl ⟨by rfl, fun w' hSw => ?_⟩) HBk.out ?_
    rotate_left
    · have cc := Blk.cell hSw 5
      simp only [List.getElem?_toArray] at cc
      have cc2 : w'.cell? ⟨g, 5, none⟩ = _ := cc
      simp at cc2
      clear cc
      go_simp
      all_goals with_reducible rfl
    simp only [Act.put, List.setIfInBounds_toArray, List.set_cons_zero, List.set_cons_succ]
    refine ord_take (v := ?_) (i := 11) (fuel := 4) (by simp; rfl) (by kernel_rfl) (by kernel_rfl) (by kernel_rfl) (Or.inl ⟨by rfl, fun w' hSw => ?_⟩) HBk.out ?_
    rotate_left
    · go_simp
      all_goals with_reducible rfl
    simp only [Act.put, List.setIfInBounds_toArray, List.set_cons_zero, List.set_cons_succ]
    refine ord_take (v := ?_) (i := 12) (fuel := 3) (by simp; rfl) (by kernel_rfl) (by kernel_rfl) (by kernel_rfl) (Or.inl ⟨by rfl, fun w' hSw => ?_⟩) HBk.out ?_
    rotate_left
    · go_simp
      all_goals with_reducible rfl
    simp only [Act.put, List.setIfInBounds_toArray, List.set_cons_zero, List.set_cons_succ]
    refine ord_call (f := 28) (args := #[.int .i64 torn, .int .i64 0, .int .i64 (m : Int)]) (w1 := W.drew) (i := 13) (fuel := 2) (by simp; rfl) (by kernel_rfl) (by rfl) ?_ ?_
    · go_simp
      all_goals with_reducible rfl
    refine (within_c torn 0 (m : Int) _ _ HQ.out).mono ?_
    rintro e w' ⟨rfl, rfl⟩
    refine ⟨_, rfl, HBk.out, ?_⟩
    simp only [Act.put, List.setIfInBounds_toArray, List.set_cons_zero, List.set_cons_succ]
    refine ord_take (v := ?_) (i := 14) (fuel := 1) (by simp; rfl) (by kernel_rfl) (by kernel_rfl) (by kernel_rfl) (Or.inl ⟨by rfl, fun w' hSw => ?_⟩) HBk.out ?_
    rotate_left
    · go_simp
      all_goals with_reducible rfl
    simp only [Act.put, List.setIfInBounds_toArray, List.set_cons_zero, List.set_cons_succ]
    refine ord_only (v := ?_) (w' := (W.drew.setRow d (Lib.byteCells (spl l a (b.take q))).toArray)) (i := 15) (fuel := 0) (by simp; rfl) (by kernel_rfl) (by rfl) ?_ (Blk.farRow HBk.out H.out.2.2.2.1 _) ?_
    rotate_left
    · refine (copyb_run (x := .tmp 36) (y := .tmp 45) (by rfl) (by rfl) (by rfl) (copy_run (w := W.drew) HD.out _ _ _ _ _ _ a (b.take q) _ (by show _ = min _ _; rw [HLB.out]; have := HC.out; have := HM.out; have := HQm.out; omega) (fun h0 => ⟨by first | rfl | (exfalso; rw [HLB.out] at h0; have := HC.out; have := HM.out; have := HQm.out; omega), HS.out.srcs HQm.out h0⟩) (by rw [HLB.out, HL.out]; have := HM.out; have := HQm.out; omega))).trans ?_
      with_reducible rfl
    simp only [Act.put, List.setIfInBounds_toArray, List.set_cons_zero, List.set_cons_succ]
    refine ord_done (by kernel_rfl) ?_ _
    have HK := Lib.hid (Blk.farRow HBk.out H.out.2.2.2.1 (Lib.byteCells (spl l a (b.take q))).toArray)
    have HRw := Lib.hid (blk_setRow HD.out (Lib.byteCells (spl l a (b.take q))).toArray)
    have HBx := Lib.hid (HBt.out.drew.setRow (g := d) (by simp) (Lib.byteCells (spl l a (b.take q))).toArray)
    replace HK := Lib.hid (show Blk (W.drew.setRow d (Lib.byteCells (spl l a (b.take q))).toArray) g 64 #[.slice (some ⟨d, 0, none⟩) n n, .int .i64 (k + 1), .bool false, .bool true, .int .i64 0, .int .i64 torn] from HK.out)
    replace HRw := Lib.hid (show Row (W.drew.setRow d (Lib.byteCells (spl l a (b.take q))).toArray) d (spl l a (b.take q)) from HRw.out)
    revert HK HRw HBx
    generalize (W.drew.setRow d (Lib.byteCells (spl l a (b.take q))).toArray) = V
    intro HBx HK HRw
    have lgV := HK.out.lt
    have cV := HK.out.cell 2
    have fV := HK.out.frozen 2
    simp at cV
    go_wp2
    go_ret
    exact ⟨rfl, ⟨HK.out.set_ 2 _, Blk.far HRw.out (p := ⟨g, 2, none⟩) H.out.2.2.2.1.symm _, spl_len HL.out (by rw [HLB.out]; have := HM.out; have := HQm.out; omega), H.out.2.2.2.1, H.out.2.2.2.2⟩, HBx.out.setCell (p := ⟨g, 2, none⟩) (by simp) _⟩
set_option maxRecDepth 100000 in
set_option maxHeartbeats 800000 in
theorem refWrite_no (a : Int) (A : Option Addr) (m c : Nat) (h : Rs w g d n l left torn dead k) (ha : a ≤ 9223372036854775807) (hβ : okB dead a (m : Int) n = false) : Calls Try.prog 21 #[.pointer (some ⟨g, 0, none⟩), .int .i64 a, .slice A m c] w fun e w' => e = .returned (.bool false) ∧ w = w' := by
  have H := Lib.hid h
  have HO := Lib.hid hβ
  clear h hβ
  go_enter Try.func21, Try.ntmps21
  go_wp2_with fail
  (with_reducible refine (there_c a (m : Int) false H.out ha HO.out).mono ?_)
  rintro e w' ⟨rfl, rfl⟩
  go_wp2
  go_ret
  exact ⟨rfl, rfl⟩
set_option maxRecDepth 100000 in
set_option maxHeartbeats 1600000 in
theorem refWrite_free (a : Nat) (x : Int) (A : Option Addr) (m c : Nat) (b : List UInt8) (h : Rs w g d n l left torn dead k) (hb : Bs w w.heap.size A m c b) (hx : x = (a : Int)) (hd : dead = false) (hc : left < 0) (hm : a + m ≤ n) (hk0 : 0 ≤ k) (hk : k < 4611686018427387904) :
    Calls Try.prog 21 #[.pointer (some ⟨g, 0, none⟩), .int .i64 x, .slice A m c] w fun e w' => e = .returned (.bool true) ∧ Rs w' g d n (spl l a b) left torn false (k + 1) ∧ But [g, d] w w' := by
  subst hx hd
  have hn := h.2.2.2.2
  have hlen := h.2.2.1
  obtain ⟨lg, c0, c1, c2, c3, c4⟩ := h.cells
  obtain ⟨f0, f1, f2, f3, f4⟩ := h.frozen
  have hok : okB false (a : Int) (m : Int) n = true := by simp [okB]; omega
  have hlz : (left == 0) = false := by simp; omega
  have a0 : (0 : Int) ≤ (a : Int) := by omega
  have an : (a : Int) ≤ (n : Int) := by omega
  have ha9 : (a : Int) ≤ 9223372036854775807 := by omega
  have HD := Lib.hid (show Row (w.setCell ⟨g, 4, none⟩ (.int .i64 (k + 1))) d l from (Blk.far h.2.1 (p := ⟨g, 4, none⟩) h.2.2.2.1.symm _))
  have HS := Lib.hid (show Bs (w.setCell ⟨g, 4, none⟩ (.int .i64 (k + 1))) w.heap.size A m c b from (hb.put (p := ⟨g, 4, none⟩) (by intro x; rw [c4]; simp) _))
  have HBt := Lib.hid (show But [g, d] w (w.setCell ⟨g, 4, none⟩ (.int .i64 (k + 1))) from ((But.refl [g, d] w).setCell (p := ⟨g, 4, none⟩) (by simp) _))
  have H := Lib.hid h
  have HO := Lib.hid hok
  have HM := Lib.hid hm
  have HLB := Lib.hid hb.len
  have HL := Lib.hid hlen
  clear h hok hm hn hlen hb
  by_cases hca : n = a
  all_goals
    have HC := Lib.hid hca
    go_enter Try.func21, Try.ntmps21
    go_wp2_with fail
    (with_reducible refine (there_c _ _ true H.out ha9 HO.out).mono ?_)
    rintro e w' ⟨rfl, rfl⟩
    go_wp2_with (with_reducible refine wpList_copyB rfl (.tmp 61) (.tmp 62) rfl _ _ _ _ _ _ rfl rfl d a l b HD.out (by show _ = min _ _; rw [HLB.out]; have := HC.out; have := HM.out; omega) (fun h0 => ⟨by first | rfl | (exfalso; rw [HLB.out] at h0; have := HC.out; have := HM.out; omega), HS.out.srcsA h0⟩) (by rw [HLB.out, HL.out]; exact HM.out) ?_)
    go_ret
    exact ⟨rfl, ⟨Blk.farRow (H.out.1.set_ 4 (.int .i64 (k + 1))) H.out.2.2.2.1 _, blk_setRow HD.out _, spl_len HL.out (by rw [HLB.out]; exact HM.out), H.out.2.2.2.1, H.out.2.2.2.2⟩, HBt.out.setRow (by simp) _⟩
set_option maxRecDepth 100000 in
set_option maxHeartbeats 1600000 in
theorem refWrite_less (a : Nat) (x : Int) (A : Option Addr) (m c : Nat) (b : List UInt8) (h : Rs w g d n l left torn dead k) (hb : Bs w w.heap.size A m c b) (hx : x = (a : Int)) (hd : dead = false) (hc : 0 < left) (hm : a + m ≤ n) (hk0 : 0 ≤ k) (hk : k < 4611686018427387904) (hlm : left ≤ 9223372036854775807) :
    Calls Try.prog 21 #[.pointer (some ⟨g, 0, none⟩), .int .i64 x, .slice A m c] w fun e w' => e = .returned (.bool true) ∧ Rs w' g d n (spl l a b) (left - 1) torn false (k + 1) ∧ But [g, d] w w' := by
  subst hx hd
  have hn := h.2.2.2.2
  have hlen := h.2.2.1
  obtain ⟨lg, c0, c1, c2, c3, c4⟩ := h.cells
  obtain ⟨f0, f1, f2, f3, f4⟩ := h.frozen
  have hok : okB false (a : Int) (m : Int) n = true := by simp [okB]; omega
  have hlz : (left == 0) = false := by simp; omega
  have a0 : (0 : Int) ≤ (a : Int) := by omega
  have an : (a : Int) ≤ (n : Int) := by omega
  have ha9 : (a : Int) ≤ 9223372036854775807 := by omega
  have HD := Lib.hid (show Row ((w.setCell ⟨g, 4, none⟩ (.int .i64 (k + 1))).setCell ⟨g, 1, none⟩ (.int .i64 (left - 1))) d l from ((Blk.far h.2.1 (p := ⟨g, 4, none⟩) h.2.2.2.1.symm _).far (p := ⟨g, 1, none⟩) h.2.2.2.1.symm _))
  have HS := Lib.hid (show Bs ((w.setCell ⟨g, 4, none⟩ (.int .i64 (k + 1))).setCell ⟨g, 1, none⟩ (.int .i64 (left - 1))) w.heap.size A m c b from ((hb.put (p := ⟨g, 4, none⟩) (by intro x; rw [c4]; simp) _).put (p := ⟨g, 1, none⟩) (by intro x; rw [World.cell?_setCell_other _ _ _ _ (by simp), c1]; simp) _))
  have HBt := Lib.hid (show But [g, d] w ((w.setCell ⟨g, 4, none⟩ (.int .i64 (k + 1))).setCell ⟨g, 1, none⟩ (.int .i64 (left - 1))) from (((But.refl [g, d] w).setCell (p := ⟨g, 4, none⟩) (by simp) _).setCell (p := ⟨g, 1, none⟩) (by simp) _))
  have H := Lib.hid h
  have HO := Lib.hid hok
  have HM := Lib.hid hm
  have HLB := Lib.hid hb.len
  have HL := Lib.hid hlen
  clear h hok hm hn hlen hb
  by_cases hca : n = a
  all_goals
    have HC := Lib.hid hca
    go_enter Try.func21, Try.ntmps21
    go_wp2_with fail
    (with_reducible refine (there_c _ _ true H.out ha9 HO.out).mono ?_)
    rintro e w' ⟨rfl, rfl⟩
    go_wp2_with (with_reducible refine wpList_copyB rfl (.tmp 61) (.tmp 62) rfl _ _ _ _ _ _ rfl rfl d a l b HD.out (by show _ = min _ _; rw [HLB.out]; have := HC.out; have := HM.out; omega) (fun h0 => ⟨by first | rfl | (exfalso; rw [HLB.out] at h0; have := HC.out; have := HM.out; omega), HS.out.srcsA h0⟩) (by rw [HLB.out, HL.out]; exact HM.out) ?_)
    go_ret
    exact ⟨rfl, ⟨Blk.farRow ((H.out.1.set_ 4 (.int .i64 (k + 1))).set_ 1 (.int .i64 (left - 1))) H.out.2.2.2.1 _, blk_setRow HD.out _, spl_len HL.out (by rw [HLB.out]; exact HM.out), H.out.2.2.2.1, H.out.2.2.2.2⟩, HBt.out.setRow (by simp) _⟩
set_option maxRecDepth 100000 in
set_option maxHeartbeats 3200000 in
theorem refWrite_torn (a q : Nat) (x : Int) (A : Option Addr) (m c : Nat) (b : List UInt8) (h : Rs w g d n l left torn dead k) (hb : Bs w w.heap.size A m c b) (hx : x = (a : Int)) (hd : dead = false) (hl : left = 0) (hm : a + m ≤ n) (hk0 : 0 ≤ k) (hk : k < 4611686018427387904) (hq : min (max torn 0) (m : Int) = (q : Int)) :
    Calls Try.prog 21 #[.pointer (some ⟨g, 0, none⟩), .int .i64 x, .slice A m c] w fun e w' => e = .returned (.bool false) ∧ Rs w' g d n (spl l a (b.take q)) 0 torn true (k + 1) ∧ But [g, d] w w' := by
  subst hx hd hl
  have hn := h.2.2.2.2
  have hlen := h.2.2.1
  have hroom := hb.room
  obtain ⟨lg, c0, c1, c2, c3, c4⟩ := h.cells
  obtain ⟨f0, f1, f2, f3, f4⟩ := h.frozen
  have hok : okB false (a : Int) (m : Int) n = true := by simp [okB]; omega
  have a0 : (0 : Int) ≤ (a : Int) := by omega
  have an : (a : Int) ≤ (n : Int) := by omega
  have ha9 : (a : Int) ≤ 9223372036854775807 := by omega
  have q0 : (0 : Int) ≤ (q : Int) := by omega
  have qc : (q : Int) ≤ (c : Int) := by omega
  have HD := Lib.hid (show Row (w.setCell ⟨g, 4, none⟩ (.int .i64 (k + 1))) d l from (Blk.far h.2.1 (p := ⟨g, 4, none⟩) h.2.2.2.1.symm _))
  have HS := Lib.hid (show Bs (w.setCell ⟨g, 4, none⟩ (.int .i64 (k + 1))) w.heap.size A m c b from hb.put (p := ⟨g, 4, none⟩) (by intro x; rw [c4]; simp) _)
  have HBt := Lib.hid (show But [g, d] w (w.setCell ⟨g, 4, none⟩ (.int .i64 (k + 1))) from (But.refl [g, d] w).setCell (p := ⟨g, 4, none⟩) (by simp) _)
  have HBk := Lib.hid (show Blk (w.setCell ⟨g, 4, none⟩ (.int .i64 (k + 1))) g 53 #[.slice (some ⟨d, 0, none⟩) n n, .int .i64 0, .int .i64 torn, .bool false, .int .i64 (k + 1)] from h.1.set_ 4 _)
  have HQ := Lib.hid (show max 0 (min (m : Int) torn) = (q : Int) by omega)
  have HQm := Lib.hid (show q ≤ m by omega)
  have H := Lib.hid h
  have HO := Lib.hid hok
  have HM := Lib.hid hm
  have HLB := Lib.hid (show (b.take q).length = q by rw [List.length_take, hb.len]; omega)
  have HL := Lib.hid hlen
  have HN := Lib.hid (show A = none → c = 0 from hb.2.2.1)
  clear h hok hm hn hlen hb hq hroom
  by_cases hca : n = a
  all_goals
    have HC := Lib.hid hca
    go_enter Try.func21, Try.ntmps21
    go_wp2_with fail
    (with_reducible refine (there_c _ _ true H.out ha9 HO.out).mono ?_)
    rintro e w' ⟨rfl, rfl⟩
    go_upto_region 5 with fail
    revert HD HS HBt HBk
    generalize (w.setCell ⟨g, 4, none⟩ (.int .i64 (k + 1))) = W
    intro HD HS HBt HBk
    refine wp_region_ord (S := fun V => Blk V g 53 #[.slice (some ⟨d, 0, none⟩) n n, .int .i64 0, .int .i64 torn, .bool false, .int .i64 (k + 1)]) (by kernel_rfl) ?_
    refine ord_take (v := ?_) (i := 0) (fuel := 15) (by simp; rfl) (by kernel_rfl) (by kernel_rfl) (by kernel_rfl) (Or.inl ⟨by rfl, fun w' hSw => ?_⟩) HBk.out ?_
    rotate_left
    · go_simp
      all_goals with_reducible rfl
    simp only [Act.put, List.setIfInBounds_toArray, List.set_cons_zero, List.set_cons_succ]
    refine ord_take (v := ?_) (i := 1) (fuel := 14) (by simp; rfl) (by kernel_rfl) (by kernel_rfl) (by kernel_rfl) (Or.inl ⟨by rfl, fun w' hSw => ?_⟩) HBk.out ?_
    rotate_left
    · go_simp
      all_goals with_reducible rfl
    simp only [Act.put, List.setIfInBounds_toArray, List.set_cons_zero, List.set_cons_succ]
    refine ord_take (v := ?_) (i := 2) (fuel := 13) (by simp; rfl) (by kernel_rfl) (by kernel_rfl) (by kernel_rfl) (Or.inl ⟨by rfl, fun w' hSw => ?_⟩) HBk.out ?_
    rotate_left
    · go_simp
      all_goals with_reducible rfl
    simp only [Act.put, List.setIfInBounds_toArray, List.set_cons_zero, List.set_cons_succ]
    refine ord_take (v := ?_) (i := 3) (fuel := 12) (by simp; rfl) (by kernel_rfl) (by kernel_rfl) (by kernel_rfl) (Or.inl ⟨by rfl, fun w' hSw => ?_⟩) HBk.out ?_
    rotate_left
    · have cc := Blk.cell hSw 0
      simp only [List.getElem?_toArray] at cc
      have cc2 : w'.cell? ⟨g, 0, none⟩ = _ := cc
      simp at cc2
      clear cc
      go_simp
      all_goals with_reducible rfl
    simp only [Act.put, List.setIfInBounds_toArray, List.set_cons_zero, List.set_cons_succ]
    refine ord_take (v := ?_) (i := 4) (fuel := 11) (by simp; rfl) (by kernel_rfl) (by kernel_rfl) (by kernel_rfl) (Or.inl ⟨by rfl, fun w' hSw => ?_⟩) HBk.out ?_
    rotate_left
    · go_simp
      all_goals with_reducible rfl
    simp only [Act.put, List.setIfInBounds_toArray, List.set_cons_zero, List.set_cons_succ]
    refine ord_take (v := ?_) (i := 5) (fuel := 10) (by simp; rfl) (by kernel_rfl) (by kernel_rfl) (by kernel_rfl) (Or.inl ⟨by rfl, fun w' hSw => ?_⟩) HBk.out ?_
    rotate_left
    · go_simp
      all_goals with_reducible rfl
    simp only [Act.put, List.setIfInBounds_toArray, List.set_cons_zero, List.set_cons_succ]
    refine ord_take (v := ?_) (i := 6) (fuel := 9) (by simp; rfl) (by kernel_rfl) (by kernel_rfl) (by kernel_rfl) (Or.inl ⟨by rfl, fun w' hSw => ?_⟩) HBk.out ?_
    rotate_left
    · go_simp
      all_goals with_reducible rfl
    simp only [Act.put, List.setIfInBounds_toArray, List.set_cons_zero, List.set_cons_succ]
    refine ord_take (v := ?_) (i := 7) (fuel := 8) (by simp; rfl) (by kernel_rfl) (by kernel_rfl) (by kernel_rfl) (Or.inl ⟨by rfl, fun w' hSw => ?_⟩) HBk.out ?_
    rotate_left
    · go_simp
      all_goals with_reducible rfl
    simp only [Act.put, List.setIfInBounds_toArray, List.set_cons_zero, List.set_cons_succ]
    refine ord_take (v := ?_) (i := 8) (fuel := 7) (by simp; rfl) (by kernel_rfl) (by kernel_rfl) (by kernel_rfl) (Or.inl ⟨by rfl, fun w' hSw => ?_⟩) HBk.out ?_
    rotate_left
    · go_simp
      all_goals with_reducible rfl
    simp only [Act.put, List.setIfInBounds_toArray, List.set_cons_zero, List.set_cons_succ]
    refine ord_take (v := ?_) (i := 9) (fuel := 6) (by simp; rfl) (by kernel_rfl) (by kernel_rfl) (by kernel_rfl) (Or.inl ⟨by rfl, fun w' hSw => ?_⟩) HBk.out ?_
    rotate_left
    · go_simp
      all_goals with_reducible rfl
    simp only [Act.put, List.setIfInBounds_toArray, List.set_cons_zero, List.set_cons_succ]
    refine ord_take (v := ?_) (i := 10) (fuel := 5) (by simp; rfl) (by kernel_rfl) (by kernel_rfl) (by kernel_rfl) (Or.inl ⟨by rfl, fun w' hSw => ?_⟩) HBk.out ?_
    rotate_left
    · have cc := Blk.cell hSw 2
      simp only [List.getElem?_toArray] at cc
      have cc2 : w'.cell? ⟨g, 2, none⟩ = _ := cc
      simp at cc2
      clear cc
      go_simp
      all_goals with_reducible rfl
    simp only [Act.put, List.setIfInBounds_toArray, List.set_cons_zero, List.set_cons_succ]
    refine ord_take (v := ?_) (i := 11) (fuel := 4) (by simp; rfl) (by kernel_rfl) (by kernel_rfl) (by kernel_rfl) (Or.inl ⟨by rfl, fun w' hSw => ?_⟩) HBk.out ?_
    rotate_left
    · go_simp
      all_goals with_reducible rfl
    simp only [Act.put, List.setIfInBounds_toArray, List.set_cons_zero, List.set_cons_succ]
    refine ord_take (v := ?_) (i := 12) (fuel := 3) (by simp; rfl) (by kernel_rfl) (by kernel_rfl) (by kernel_rfl) (Or.inl ⟨by rfl, fun w' hSw => ?_⟩) HBk.out ?_
    rotate_left
    · go_simp
      all_goals with_reducible rfl
    simp only [Act.put, List.setIfInBounds_toArray, List.set_cons_zero, List.set_cons_succ]
    refine ord_call (f := 38) (args := #[.int .i64 torn, .int .i64 0, .int .i64 (m : Int)]) (w1 := W.drew) (i := 13) (fuel := 2) (by simp; rfl) (by kernel_rfl) (by rfl) ?_ ?_
    · go_simp
      all_goals with_reducible rfl
    refine (refWithin_c torn 0 (m : Int) _ _ HQ.out).mono ?_
    rintro e w' ⟨rfl, rfl⟩
    refine ⟨_, rfl, HBk.out, ?_⟩
    simp only [Act.put, List.setIfInBounds_toArray, List.set_cons_zero, List.set_cons_succ]
    refine ord_take (v := ?_) (i := 14) (fuel := 1) (by simp; rfl) (by kernel_rfl) (by kernel_rfl) (by kernel_rfl) (Or.inl ⟨by rfl, fun w' hSw => ?_⟩) HBk.out ?_
    rotate_left
    · go_simp
      all_goals with_reducible rfl
    simp only [Act.put, List.setIfInBounds_toArray, List.set_cons_zero, List.set_cons_succ]
    refine ord_only (v := ?_) (w' := (W.drew.setRow d (Lib.byteCells (spl l a (b.take q))).toArray)) (i := 15) (fuel := 0) (by simp; rfl) (by kernel_rfl) (by rfl) ?_ (Blk.farRow HBk.out H.out.2.2.2.1 _) ?_
    rotate_left
    · refine (copyb_run (x := .tmp 30) (y := .tmp 39) (by rfl) (by rfl) (by rfl) (copy_run (w := W.drew) HD.out _ _ _ _ _ _ a (b.take q) _ (by show _ = min _ _; rw [HLB.out]; have := HC.out; have := HM.out; have := HQm.out; omega) (fun h0 => ⟨by first | rfl | (exfalso; rw [HLB.out] at h0; have := HC.out; have := HM.out; have := HQm.out; omega), HS.out.srcs HQm.out h0⟩) (by rw [HLB.out, HL.out]; have := HM.out; have := HQm.out; omega))).trans ?_
      with_reducible rfl
    simp only [Act.put, List.setIfInBounds_toArray, List.set_cons_zero, List.set_cons_succ]
    refine ord_done (by kernel_rfl) ?_ _
    have HK := Lib.hid (Blk.farRow HBk.out H.out.2.2.2.1 (Lib.byteCells (spl l a (b.take q))).toArray)
    have HRw := Lib.hid (blk_setRow HD.out (Lib.byteCells (spl l a (b.take q))).toArray)
    have HBx := Lib.hid (HBt.out.drew.setRow (g := d) (by simp) (Lib.byteCells (spl l a (b.take q))).toArray)
    replace HK := Lib.hid (show Blk (W.drew.setRow d (Lib.byteCells (spl l a (b.take q))).toArray) g 53 #[.slice (some ⟨d, 0, none⟩) n n, .int .i64 0, .int .i64 torn, .bool false, .int .i64 (k + 1)] from HK.out)
    replace HRw := Lib.hid (show Row (W.drew.setRow d (Lib.byteCells (spl l a (b.take q))).toArray) d (spl l a (b.take q)) from HRw.out)
    revert HK HRw HBx
    generalize (W.drew.setRow d (Lib.byteCells (spl l a (b.take q))).toArray) = V
    intro HBx HK HRw
    have lgV := HK.out.lt
    have cV := HK.out.cell 3
    have fV := HK.out.frozen 3
    simp at cV
    go_wp2
    go_ret
    exact ⟨rfl, ⟨HK.out.set_ 3 _, Blk.far HRw.out (p := ⟨g, 3, none⟩) H.out.2.2.2.1.symm _, spl_len HL.out (by rw [HLB.out]; have := HM.out; have := HQm.out; omega), H.out.2.2.2.1, H.out.2.2.2.2⟩, HBx.out.setCell (p := ⟨g, 3, none⟩) (by simp) _⟩
end
end Go.Proofs.Ytkjckdndkljeeaa

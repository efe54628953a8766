/- QuantKnown: the tables, and the loop over them. -/
import Derived.Test.YtkaflkofffgndaaDoorQuantP
import Derived.Test.YtkaflkofffgndaaDoorQuantG
import Derived.Deep.WholeRow
import Derived.Deep.CutBlock
import Derived.Deep.DeepCutAuto
namespace Go.Proofs.YtkaflkofffgndaaDoor
open Go.RowKit
def wantA : Array Value := #[.int .i64 2, .int .i64 (-2), .int .i64 2, .int .i64 3, .int .i64 3, .int .i64 (-3), .int .i64 3, .int .i64 4, .int .i64 2, .int .i64 (-3), .int .i64 2, .int .i64 3, .int .i64 3, .int .i64 (-3), .int .i64 2, .int .i64 4, .int .i64 2, .int .i64 (-2), .int .i64 2, .int .i64 4]
theorem build4 (a b c d : Int) (w : World) : (Instr.build 22 #[(0, .int .i64 a), (1, .int .i64 b), (2, .int .i64 c), (3, .int .i64 d)]).run Tryd.prog w = .ok (.agg #[.int .i64 a, .int .i64 b, .int .i64 c, .int .i64 d]) w := run_build w 22 _ _ (by kernel_rfl)
theorem build20 (w : World) : (Instr.build 23 #[(0, .agg #[.int .i64 2, .int .i64 (-2), .int .i64 2, .int .i64 3]), (1, .agg #[.int .i64 3, .int .i64 (-3), .int .i64 3, .int .i64 4]), (2, .agg #[.int .i64 2, .int .i64 (-3), .int .i64 2, .int .i64 3]), (3, .agg #[.int .i64 3, .int .i64 (-3), .int .i64 2, .int .i64 4]), (4, .agg #[.int .i64 2, .int .i64 (-2), .int .i64 2, .int .i64 4])]).run Tryd.prog w = .ok (.agg wantA) w := run_build w 23 _ _ (by kernel_rfl)
theorem want_st1 (w : World) : (Instr.storeAt 23 (.pointer (some ⟨w.heap.size, 0, none⟩)) (.agg wantA)).run Tryd.prog (w.alloc (.cells #[.int .i64 0, .int .i64 0, .int .i64 0, .int .i64 0, .int .i64 0, .int .i64 0, .int .i64 0, .int .i64 0, .int .i64 0, .int .i64 0, .int .i64 0, .int .i64 0, .int .i64 0, .int .i64 0, .int .i64 0, .int .i64 0, .int .i64 0, .int .i64 0, .int .i64 0, .int .i64 0] 23)) = .ok () (w.alloc (.cells wantA 23)) :=
  run_storeAt_new w 23 _ wantA (by kernel_rfl) (by rfl) (by decide +kernel)
theorem want_st2 (w : World) : (storeCells ⟨w.heap.size, 0, none⟩ wantA.toList 0).run Tryd.prog (w.alloc (.cells #[.int .i64 0, .int .i64 0, .int .i64 0, .int .i64 0, .int .i64 0, .int .i64 0, .int .i64 0, .int .i64 0, .int .i64 0, .int .i64 0, .int .i64 0, .int .i64 0, .int .i64 0, .int .i64 0, .int .i64 0, .int .i64 0, .int .i64 0, .int .i64 0, .int .i64 0, .int .i64 0] 23)) = .ok () (w.alloc (.cells wantA 23)) :=
  run_storeCells_new w 23 _ wantA (by kernel_rfl) (by rfl) (by decide +kernel)
theorem wpList_val {P : Program} {ops : Array Oper} {Q : Exit → Act → World → Prop} {a : Act} {w w' : World} {rest : List Oper} {o : Oper} {v : Value} (hg : o.guard = none) (h : (execOp a.eval o).run P w = .ok (.value v) w') (hn : wpList P ops Q rest (a.put o.dst v) w') : wpList P ops Q (o :: rest) a w :=
  wpList_plain hg fun K hK => by
    unfold Oper.wp
    rw [h]
    exact hK _ _ hn
theorem wpList_skp {P : Program} {ops : Array Oper} {Q : Exit → Act → World → Prop} {a : Act} {w w' : World} {rest : List Oper} {o : Oper} (hg : o.guard = none) (h : (execOp a.eval o).run P w = .ok .skip w') (hn : wpList P ops Q rest (a.put o.dst undef) w') : wpList P ops Q (o :: rest) a w :=
  wpList_plain hg fun K hK => by
    unfold Oper.wp
    rw [h]
    exact hK _ _ hn
theorem flat {f : Nat} {args : Array Value} {w : World} {V : Value} (h : Calls Tryd.prog f args w (Ret w (· = V))) : Calls Tryd.prog f args w (fun e w2 => e = .returned V ∧ Below w.heap.size w w2) := h.mono fun e w2 ⟨_, hv, he, hb⟩ => ⟨by rw [he, hv], hb⟩
theorem decIs_n {n : Bool} {a z : Int} (h : n = decide (z < 0)) (ha : 0 ≤ a ∧ a < 18446744073709551616) (hz : a = (z.natAbs : Int)) : DecIs n a 0 z := ⟨h, ha, u64_0, by simp [v2]; omega⟩
theorem kidx4 (i : Nat) (hi : i < 4) : ∃ (n : Int) (sn : Bool) (an : Int), (∀ w : World, (Instr.index 22 (.agg #[.int .i64 25, .int .i64 (-25), .int .i64 24, .int .i64 35]) (.int .i64 (i : Int))).run Tryd.prog w = .ok (.int .i64 n) w) ∧ DecIs sn an 0 n ∧ -1000000000 ≤ n ∧ n ≤ 1000000000 ∧ ∀ k : Nat, k < 5 → ∃ (z : Int) (zn : Bool) (za : Int), quantV sn an 0 1 0 (k : Int) = .tuple #[.agg #[.bool zn, .int .u64 za, .int .u64 0, .int .i64 0], .int .i64 0] ∧ wantA[k * 4 + i]? = some (.int .i64 z) ∧ DecIs zn za 0 z ∧ -1000000000 ≤ z ∧ z ≤ 1000000000 := by
  rcases (show i = 0 ∨ i = 1 ∨ i = 2 ∨ i = 3 by omega) with rfl | rfl | rfl | rfl
  · refine ⟨25, false, 25, fun w => by kernel_rfl, decIs_n (by decide) (by decide) (by decide), by decide, by decide, fun k hk => ?_⟩
    rcases (show k = 0 ∨ k = 1 ∨ k = 2 ∨ k = 3 ∨ k = 4 by omega) with rfl | rfl | rfl | rfl | rfl
    · exact ⟨2, false, 2, by kernel_rfl, by kernel_rfl, decIs_n (by decide) (by decide) (by decide), by decide, by decide⟩
    · exact ⟨3, false, 3, by kernel_rfl, by kernel_rfl, decIs_n (by decide) (by decide) (by decide), by decide, by decide⟩
    · exact ⟨2, false, 2, by kernel_rfl, by kernel_rfl, decIs_n (by decide) (by decide) (by decide), by decide, by decide⟩
    · exact ⟨3, false, 3, by kernel_rfl, by kernel_rfl, decIs_n (by decide) (by decide) (by decide), by decide, by decide⟩
    · exact ⟨2, false, 2, by kernel_rfl, by kernel_rfl, decIs_n (by decide) (by decide) (by decide), by decide, by decide⟩
  · refine ⟨(-25), true, 25, fun w => by kernel_rfl, decIs_n (by decide) (by decide) (by decide), by decide, by decide, fun k hk => ?_⟩
    rcases (show k = 0 ∨ k = 1 ∨ k = 2 ∨ k = 3 ∨ k = 4 by omega) with rfl | rfl | rfl | rfl | rfl
    · exact ⟨(-2), true, 2, by kernel_rfl, by kernel_rfl, decIs_n (by decide) (by decide) (by decide), by decide, by decide⟩
    · exact ⟨(-3), true, 3, by kernel_rfl, by kernel_rfl, decIs_n (by decide) (by decide) (by decide), by decide, by decide⟩
    · exact ⟨(-3), true, 3, by kernel_rfl, by kernel_rfl, decIs_n (by decide) (by decide) (by decide), by decide, by decide⟩
    · exact ⟨(-3), true, 3, by kernel_rfl, by kernel_rfl, decIs_n (by decide) (by decide) (by decide), by decide, by decide⟩
    · exact ⟨(-2), true, 2, by kernel_rfl, by kernel_rfl, decIs_n (by decide) (by decide) (by decide), by decide, by decide⟩
  · refine ⟨24, false, 24, fun w => by kernel_rfl, decIs_n (by decide) (by decide) (by decide), by decide, by decide, fun k hk => ?_⟩
    rcases (show k = 0 ∨ k = 1 ∨ k = 2 ∨ k = 3 ∨ k = 4 by omega) with rfl | rfl | rfl | rfl | rfl
    · exact ⟨2, false, 2, by kernel_rfl, by kernel_rfl, decIs_n (by decide) (by decide) (by decide), by decide, by decide⟩
    · exact ⟨3, false, 3, by kernel_rfl, by kernel_rfl, decIs_n (by decide) (by decide) (by decide), by decide, by decide⟩
    · exact ⟨2, false, 2, by kernel_rfl, by kernel_rfl, decIs_n (by decide) (by decide) (by decide), by decide, by decide⟩
    · exact ⟨2, false, 2, by kernel_rfl, by kernel_rfl, decIs_n (by decide) (by decide) (by decide), by decide, by decide⟩
    · exact ⟨2, false, 2, by kernel_rfl, by kernel_rfl, decIs_n (by decide) (by decide) (by decide), by decide, by decide⟩
  · refine ⟨35, false, 35, fun w => by kernel_rfl, decIs_n (by decide) (by decide) (by decide), by decide, by decide, fun k hk => ?_⟩
    rcases (show k = 0 ∨ k = 1 ∨ k = 2 ∨ k = 3 ∨ k = 4 by omega) with rfl | rfl | rfl | rfl | rfl
    · exact ⟨3, false, 3, by kernel_rfl, by kernel_rfl, decIs_n (by decide) (by decide) (by decide), by decide, by decide⟩
    · exact ⟨4, false, 4, by kernel_rfl, by kernel_rfl, decIs_n (by decide) (by decide) (by decide), by decide, by decide⟩
    · exact ⟨3, false, 3, by kernel_rfl, by kernel_rfl, decIs_n (by decide) (by decide) (by decide), by decide, by decide⟩
    · exact ⟨4, false, 4, by kernel_rfl, by kernel_rfl, decIs_n (by decide) (by decide) (by decide), by decide, by decide⟩
    · exact ⟨4, false, 4, by kernel_rfl, by kernel_rfl, decIs_n (by decide) (by decide) (by decide), by decide, by decide⟩
/-- What stands when the tables are done. -/
def QK0 (w : World) (wr : World) : Prop := HB w [(w.heap.size, 23, wantA)] wr
end Go.Proofs.YtkaflkofffgndaaDoor

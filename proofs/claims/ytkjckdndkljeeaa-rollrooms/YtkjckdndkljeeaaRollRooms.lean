/- For every input 'RollRooms' returns true and leaves its arguments as they were. No condition. -/
import Derived.Test.YtkjckdndkljeeaaRows
import Derived.WalkKit
import Derived.ProofKit
import Derived.OpenShut
import Derived.ShutString
import Derived.ChangeOld
import Derived.Below
import Derived.SizedLaws
import Derived.Deep.Slices
import Derived.Deep.Fields
import Derived.Deep.Strs
import Derived.ChangeSame
import Derived.Test.YtkjckdndkljeeaaRollQ
import Derived.Test.YtkjckdndkljeeaaPostB
namespace Go.Proofs.Ytkjckdndkljeeaa.rollRooms
open Go.ChangeShapes Go.WideShapes Go.ChangeAt Go.RowKit Go.Deep
set_option linter.unusedVariables false

theorem own : ownKnob Try.prog.godebug = none := by kernel_rfl
theorem laidOut : laidOutB Try.prog = true := by kernel_rfl

theorem vs_in {w : World} {a : Addr} {len cap m : Nat} {V : Nat → Value} (hl : len ≤ cap) (hm : len ≤ m) (hc : ∀ i, i < m → w.cell? (a.add i) = some (V i)) (vs : List Value) (hvs : vs.length = len) (hv : ∀ j (h : j < vs.length), vs[j] = V j) :
    Vs w w.heap.size (some a) len cap vs := by
  refine ⟨hvs, hl, fun h0 => ?_⟩
  obtain ⟨b, off, spot⟩ := a
  have h1 := hc 0 (by omega)
  have hspot : spot = none := by simpa [Addr.add] using World.cell?_spot h1
  subst hspot
  refine ⟨b, off, rfl, ?_, fun j hj => ?_⟩
  · have := World.block_lt_of_cell? w _ h1
    simpa [Addr.add_lit] using this
  · have h2 := hc j (by omega)
    rw [Addr.add_lit] at h2
    rw [h2, hv j hj]
theorem vs_nil (w : World) (vs : List Value) (h : vs = []) : Vs w w.heap.size none 0 0 vs := by
  subst h
  exact ⟨rfl, Nat.le_refl _, fun h => absurd h (by omega)⟩
theorem vs_strs {w : World} {a : Addr} {len cap m : Nat} {X : Nat → ByteArray} (hl : len ≤ cap) (hm : len ≤ m) (hc : ∀ i, i < m → w.cell? (a.add i) = some (.string (X i))) : Vs w w.heap.size (some a) len cap (((List.range len).map fun i => (X i).data.toList).map strV) := by
  refine vs_in hl hm hc _ (by simp) fun j hj => ?_
  simp [strV]

set_option maxRecDepth 100000 in
theorem lifted (os : Os) (started : os.Started) (H : Type) (enc : TypeId × Value → H) :
    ReturnsInHanded {} Try.checked os 7 .any (Rows.rollRoomsSpec.pre6 enc Try.prog Try.f7 Rows.rollRoomsRow.domain false) (Rows.rollRoomsSpec.post enc Try.prog Try.f7 false true false false) := by
  refine returnsInHanded_of_change_sized (C := Try.checked) own started (by kernel_rfl) Try.func7
    (ChangeSpec.witness6 (enc := enc) (C := Try.checked) false ⟨#[], #[.int .i64 0, .slice none 0 0], []⟩ 8 (by kernel_rfl) (by kernel_rfl) (by kernel_rfl) (by kernel_rfl)) ?_
  intro W base args ds gs before hval0 hW hcnd hsz0 _
  have hsz : (DataW.weightsEach Try.prog (Try.f7.params.toList ++ Rows.rollRoomsSpec.plain.varTypes Try.prog) (ds ++ gs)).all (· ≤ reachBytes) = true := hsz0
  have hval : ∀ (j : Nat) t v, Try.f7.params[j]? = some t → args[j]? = some v → Value.okWide Try.prog W .any base t v := hval0
  have hW' := hW
  obtain ⟨p, q, hA0, hV, rfl, hfz, hnd⟩ := hW
  have hA : DataW.TrodAll enc Try.prog W 0 (fun _ => true) true Try.f7.params.toList args.toList ds p := hA0
  rw [Try.params7] at hA hval hsz
  obtain ⟨v0, vs0, d0, ds0, p0, q0, hargs, rfl, rfl, h0, r0⟩ := trodAll_cons hA
  obtain ⟨v1, vs1, d1, ds1, p1, q1, rfl, rfl, rfl, h1, r1⟩ := trodAll_cons r0
  obtain ⟨rfl, rfl, rfl⟩ := trodAll_nil r1
  obtain rfl : args = #[v0, v1] := by cases args; simp_all
  obtain ⟨rfl, rfl⟩ := trodVars_none hV
  obtain ⟨a0, rfl, rfl, rfl, w0⟩ := open_int Try.underlying3 (hval 0 3 v0 rfl rfl) h0
  obtain ⟨a1, len1, cap1, rfl⟩ := okWide_slice Try.underlying55 (hval 1 55 v1 rfl rfl)
  have k1 := h1
  have lt1 : ∀ x ∈ p1, x.block < W.heap.size := by obtain ⟨m, hm⟩ := k1; exact DataW.trod_lt m _ _ _ hm
  obtain ⟨ts, w1, rr1⟩ : ∃ ts : List (List UInt8), Vs W W.heap.size a1 len1 cap1 (ts.map strV) ∧ len1 ≤ 281474976710656 := by
    obtain ⟨fuel, hf⟩ := h1
    rcases Go.Deep.open_strs Try.underlying55 Try.underlying9 (by kernel_rfl) hf with ⟨hcs, _⟩ | ⟨y, l, c, m, X, hcs, _, hl, hm, hmm, hx, hcell⟩
    · simp [Value.cells] at hcs
      obtain ⟨rfl, rfl, rfl⟩ := hcs
      exact ⟨[], vs_nil _ _ rfl, by omega⟩
    · simp [Value.cells] at hcs
      obtain ⟨rfl, rfl, rfl⟩ := hcs
      have hm' : m = cap1 := by simpa using hmm
      have hd := congrArg Prod.fst hx
      simp only at hd
      have := sized_slice hsz (j := 1) (t := 55) (e := 9) rfl (by rw [hd]; rfl) Try.underlying55
      rw [show Try.prog.bytesOf 9 = 16 by kernel_rfl] at this
      simp only [reachBytes, List.length_map, List.length_range] at this
      exact ⟨(List.range len1).map fun i => (X i).data.toList, vs_strs hl (by omega) (fun i hi => (hcell i hi).1), by omega⟩
  clear hA0 hval0
  refine (rollRooms_c a0 a1 len1 cap1 ts W w1 rr1).mono fun e W' ⟨he, bel⟩ => ?_
  subst he
  exact ⟨_, rfl, _, _, _, [], _, [], hW', trodAll_mk1 (shut_bool Try.underlying4 _), (trodAll_cons_mk (shut_int Try.underlying3 w0) (trodAll_cons_mk (Below.trod laidOut (by kernel_rfl) (of_decide_eq_true (by kernel_rfl)) k1 bel lt1) trodAll_mk0)), rfl, bel.frame _, fun h => by cases h⟩

theorem over : Rows.rollRoomsRow.holds Try.pinned (OpenSpec.ofChange Rows.rollRoomsSpec) :=
  OpenClaim.holds_of_wide 7 Try.f7 rfl rfl rfl rfl rfl rfl rfl ⟨rfl, rfl, rfl, rfl, rfl⟩ rfl rfl rfl rfl rfl (by kernel_rfl) Try.func7 (by kernel_rfl)
    (of_decide_eq_true (by kernel_rfl)) (by unfold Func.isWrapper; first | (rw [if_pos (by decide +kernel)]; kernel_rfl) | (rw [if_neg (by decide +kernel)]; exact ⟨rfl, rfl⟩))
    (fun os started H enc _ => lifted os started H enc)

/-- The given statement. -/
theorem proved : Rows.RollRoomsSaid := over
#print axioms proved
end Go.Proofs.Ytkjckdndkljeeaa.rollRooms

/- Package label: Read. -/
/- Labels of pyxref4: Below, Join, Meet, OfEnt; of pyxhand; two labels compared. -/
import Derived.Test.YtakofbkbbmpfeabLabC
import Derived.Test.YtakofbkbbmpfeabOrd2
import Derived.ProofKit
namespace Go.Proofs.Ytakofbkbbmpfeab
open Go.RowKit
/-- A label and an Errno were returned; what was there stays. -/
def RetR (w : World) (q : Nat × Int × Int) (e : Ending) (w' : World) : Prop := e = .returned (.tuple #[.agg #[.int .u64 (q.1 : Int), .int .i64 q.2.1], .int .i64 q.2.2]) ∧ Below w.heap.size w w'
theorem two_of {w : World} {g : Nat} {t : TypeId} {a b : Value} (x : Blk w g t #[a, b]) : g < w.heap.size ∧ w.cell? ⟨g, 0, none⟩ = some a ∧ w.cell? ⟨g, 1, none⟩ = some b ∧ w.frozen? ⟨g, 0, none⟩ = false ∧ w.frozen? ⟨g, 1, none⟩ = false := by
  have x0 := x.cell 0
  have x1 := x.cell 1
  simp at x0 x1
  exact ⟨x.lt, x0, x1, x.frozen 0, x.frozen 1⟩
theorem labBel2 {B g : Nat} {w w' : World} {a b : Value} (h : Below B w w') (hg : B ≤ g) : Below B w ((w'.setCell ⟨g, 0, none⟩ a).setCell ⟨g, 1, none⟩ b) :=
  (h.setCell (p := ⟨g, 0, none⟩) hg a).setCell (p := ⟨g, 1, none⟩) hg b
/-- The result's cells, and the label under way. -/
def RdB (w : World) (n : Nat) (v : Int) (V : World) : Prop :=
  Blk V w.heap.size 33 #[.int .u64 0, .int .i64 0] ∧ Blk V (w.heap.size + 1) 33 #[.int .u64 (n : Int), .int .i64 v] ∧ Below w.heap.size w V
theorem RdB.below {w V V' : World} {n : Nat} {v : Int} (h : RdB w n v V) (hb : Below V.heap.size V V') : RdB w n v V' := ⟨h.1.below hb h.1.lt, h.2.1.below hb h.2.1.lt, h.2.2.trans (hb.mono h.2.2.size)⟩
theorem RdB.set {w V : World} {n m : Nat} {v y : Int} (h : RdB w n v V) (hy : y = (m : Int)) : RdB w m v (V.setCell ⟨w.heap.size + 1, 0, none⟩ (.int .u64 y)) := by
  subst hy
  refine ⟨h.1.far (p := ⟨w.heap.size + 1, 0, none⟩) (by simp) _, ?_, h.2.2.setCell (p := ⟨w.heap.size + 1, 0, none⟩) (by simp) _⟩
  have := h.2.1.set_ 0 (.int .u64 (m : Int))
  simpa using this
def RdRel (w : World) (s : List UInt8) (v : Int) (t i : Value) (wr : World) : Prop :=
  ∃ (k n : Nat) (q : Int), 2 ≤ k ∧ k ≤ s.length ∧ i = .int .i64 k ∧ t = .int .i64 q ∧ -1 ≤ q ∧ n < 256 ∧ rdL n q (s.drop k) = rdL 0 (-1) (s.drop 2) ∧ RdB w n v wr
theorem rdL_no {s : List UInt8} {k n : Nat} {q : Int} (h : k < s.length) (hc : (s[k].toNat : Int) - 48 ≤ q ∨ 8 ≤ (s[k].toNat : Int) - 48) : rdL n q (s.drop k) = none := by
  rw [List.drop_eq_getElem_cons h, rdL, if_pos hc]
theorem rdL_go {s : List UInt8} {k n : Nat} {q : Int} (h : k < s.length) (hc : ¬ ((s[k].toNat : Int) - 48 ≤ q ∨ 8 ≤ (s[k].toNat : Int) - 48)) : rdL n q (s.drop k) = rdL (n ||| 2 ^ (s[k].toNat - 48)) ((s[k].toNat : Int) - 48) (s.drop (k + 1)) := by
  rw [List.drop_eq_getElem_cons h, rdL, if_neg hc]
theorem rdL_all {s : List UInt8} {k n : Nat} {q : Int} (h : s.length ≤ k) : rdL n q (s.drop k) = some n := by
  rw [List.drop_eq_nil_of_le h, rdL]
theorem readV_at {s : List UInt8} (h0 : 0 < s.length) (h1 : 1 < s.length) (hb : s[1].toNat = 58) : readV s = match rdL 0 (-1) (s.drop 2) with
      | some n => if rightB n ((s[0].toNat : Int) - 48) then (n, (s[0].toNat : Int) - 48, 0) else (0, 0, 2)
      | none => (0, 0, 2) := by
  match s, h1 with
  | a :: b :: l, _ =>
    simp only [List.getElem_cons_succ, List.getElem_cons_zero] at hb
    rw [readV, if_pos hb]
    rfl
theorem readV_short {s : List UInt8} (h : s.length < 2) : readV s = (0, 0, 2) := by
  match s, h with
  | [], _ => rfl
  | [_], _ => rfl
  | _ :: _ :: _, h => simp at h; omega
theorem readV_colon {s : List UInt8} (h1 : 1 < s.length) (hb : ¬ s[1].toNat = 58) : readV s = (0, 0, 2) := by
  match s, h1 with
  | a :: b :: l, _ =>
    simp only [List.getElem_cons_succ, List.getElem_cons_zero] at hb
    rw [readV, if_neg hb]
end Go.Proofs.Ytakofbkbbmpfeab

namespace Go.Proofs.Ytakofbkbbmpfeab
open Go.RowKit
theorem under_lab : Try.prog.underlying 33 = some (.struct (Try.prog.fieldsOf 33)) := by kernel_rfl
theorem stood_lab : Try.prog.stoodInHeld 33 = false := by kernel_rfl
theorem fields_lab : (Try.prog.fieldsOf 33).toList.map (fun f => (f.name, f.type, f.offset)) = [("Set", 31, 0), ("Level", 3, 1)] := by kernel_rfl
theorem part_l0 (a v : Int) (w : World) : (part 31 #[.int .u64 a, .int .i64 v] 0).run Try.prog w = .ok (.int .u64 a) w := by kernel_rfl
theorem part_l1 (a v : Int) (w : World) : (part 3 #[.int .u64 a, .int .i64 v] 1).run Try.prog w = .ok (.int .i64 v) w := by kernel_rfl
def eqLab (a v b u : Int) : Bool := a == b && v == u
@[go_sem] theorem run_eqLab (a v b u : Int) (w : World) : (Op.equalIn 10000 33 (.agg #[.int .u64 a, .int .i64 v]) (.agg #[.int .u64 b, .int .i64 u])).run Try.prog w = .ok (eqLab a v b u) w := by
  rw [run_equalIn_struct w 9999 _ _ _ under_lab stood_lab]
  have h := fields_lab
  generalize (Try.prog.fieldsOf 33).toList = fs at h ⊢
  rcases fs with _ | ⟨f, _ | ⟨g, _ | ⟨k, fs⟩⟩⟩ <;> simp at h
  obtain ⟨⟨f1, f2, f3⟩, g1, g2, g3⟩ := h
  simp only [Op.eqFields, f1, f2, f3, g1, g2, g3, Sem.run_bind, Sem.run_ite, part_l0, part_l1, Result.andThen_ok]
  have e1 := run_equalIn_int (P := Try.prog) w 9998 31 .u64 .u64 a b Try.underlying31
  have e3 := run_equalIn_int (P := Try.prog) w 9998 3 .i64 .i64 v u Try.underlying3
  simp only [e1, e3, Result.andThen_ok]
  simp only [eqLab]
  cases a == b <;> cases v == u <;> simp
@[go_sem] theorem eqLab_same (a v : Int) : eqLab a v a v = true := by simp [eqLab]
theorem eqLab_nat (a b : Nat) (v u : Int) : eqLab (a : Int) v (b : Int) u = (decide (a = b) && decide (v = u)) := by
  unfold eqLab
  congr 1
  by_cases h : a = b
  · subst h; simp
  · have : ¬ (a : Int) = (b : Int) := by omega
    simp [h, this]
end Go.Proofs.Ytakofbkbbmpfeab

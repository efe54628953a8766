/- How decimals are compared. -/
import Derived.Test.YtakofbkbbmpfeaaLimbA
namespace Go.Proofs.Ytakofbkbbmpfeaa
theorem under_dec : Try.prog.underlying 49 = some (.struct (Try.prog.fieldsOf 49)) := by kernel_rfl
theorem stood_dec : Try.prog.stoodInHeld 49 = false := by kernel_rfl
/-- Are two decimals the same, field by field? -/
def eqDec (n : Bool) (a b s : Int) (n' : Bool) (a' b' s' : Int) : Bool := n == n' && (eqW2 a b a' b' && s == s')
theorem fields_dec : (Try.prog.fieldsOf 49).toList.map (fun f => (f.name, f.type, f.offset)) = [("Neg", 4, 0), ("C", 47, 1), ("Scale", 3, 3)] := by kernel_rfl
@[go_sem] theorem run_eq2d (a b c d : Int) (w : World) : (Op.equalIn 9999 47 (.agg #[.int .u64 a, .int .u64 b]) (.agg #[.int .u64 c, .int .u64 d])).run Try.prog w = .ok (eqW2 a b c d) w := by
  obtain ⟨i, hi⟩ := info_w
  rw [run_equalIn_array w 9998 _ _ Try.underlying47 hi, cells_w]
  simp only [List.range, List.range.loop, Op.eqItems]
  simp [go_sem, Try.underlying31, eqW2]
  by_cases h0 : a = c <;> by_cases h1 : b = d <;> simp [h0, h1]
theorem part_n (n : Bool) (a b s : Int) (w : World) : (part 4 #[.bool n, .int .u64 a, .int .u64 b, .int .i64 s] 0).run Try.prog w = .ok (.bool n) w := by kernel_rfl
theorem part_c (n : Bool) (a b s : Int) (w : World) : (part 47 #[.bool n, .int .u64 a, .int .u64 b, .int .i64 s] 1).run Try.prog w = .ok (.agg #[.int .u64 a, .int .u64 b]) w := by kernel_rfl
theorem part_s (n : Bool) (a b s : Int) (w : World) : (part 3 #[.bool n, .int .u64 a, .int .u64 b, .int .i64 s] 3).run Try.prog w = .ok (.int .i64 s) w := by kernel_rfl
@[go_sem] theorem run_eqDec (n : Bool) (a b s : Int) (n' : Bool) (a' b' s' : Int) (w : World) : (Op.equalIn 10000 49 (.agg #[.bool n, .int .u64 a, .int .u64 b, .int .i64 s]) (.agg #[.bool n', .int .u64 a', .int .u64 b', .int .i64 s'])).run Try.prog w = .ok (eqDec n a b s n' a' b' s') w := by
  rw [run_equalIn_struct w 9999 _ _ _ under_dec stood_dec]
  have h := fields_dec
  generalize (Try.prog.fieldsOf 49).toList = fs at h ⊢
  rcases fs with _ | ⟨f, _ | ⟨g, _ | ⟨k, _ | ⟨l, fs⟩⟩⟩⟩ <;> simp at h
  obtain ⟨⟨f1, f2, f3⟩, ⟨g1, g2, g3⟩, k1, k2, k3⟩ := h
  simp only [Op.eqFields, f1, f2, f3, g1, g2, g3, k1, k2, k3, Sem.run_bind, Sem.run_ite, part_n, part_c, part_s, Result.andThen_ok]
  have e1 := run_equalIn_bool' (P := Try.prog) w 9998 4 n n' Try.underlying4
  have e3 := run_equalIn_int (P := Try.prog) w 9998 3 .i64 .i64 s s' Try.underlying3
  simp only [e1, e3, run_eq2d, Result.andThen_ok]
  simp only [eqDec]
  cases n == n' <;> cases eqW2 a b a' b' <;> cases s == s' <;> simp
theorem eqDec_iff {n : Bool} {a b s : Int} {n' : Bool} {a' b' s' : Int} : eqDec n a b s n' a' b' s' = true ↔ n = n' ∧ a = a' ∧ b = b' ∧ s = s' := by
  simp [eqDec, eqW2, and_assoc]
theorem eqDec_no {n : Bool} {a b s : Int} {n' : Bool} {a' b' s' : Int} (h : ¬ (n = n' ∧ a = a' ∧ b = b' ∧ s = s')) : eqDec n a b s n' a' b' s' = false := by
  cases e : eqDec n a b s n' a' b' s'
  · rfl
  · exact absurd (eqDec_iff.1 e) h
end Go.Proofs.Ytakofbkbbmpfeaa

/- How arrays of words are compared. -/
import Derived.Test.YtakofbkbbmpfeabRows
import Derived.WalkKit
import Derived.ChangeKeysEq
namespace Go.Proofs.Ytakofbkbbmpfeab
theorem info_w : ∃ i, Try.prog.info? 31 = some i := by
  have e : (Try.prog.info? 31).isSome = true := by kernel_rfl
  exact Option.isSome_iff_exists.1 e
theorem cells_w : Try.prog.cellsOf 31 = 1 := by kernel_rfl
/-- Are two words, or four, the same? -/
def eqW2 (a b c d : Int) : Bool := a == c && b == d
def eqW4 (a b c d a' b' c' d' : Int) : Bool := (a == a' && b == b') && (c == c' && d == d')
@[go_sem] theorem run_eq2 (a b c d : Int) (w : World) : (Op.equalIn 10000 47 (.agg #[.int .u64 a, .int .u64 b]) (.agg #[.int .u64 c, .int .u64 d])).run Try.prog w = .ok (eqW2 a b c d) w := by
  obtain ⟨i, hi⟩ := info_w
  rw [run_equalIn_array w 9999 _ _ Try.underlying47 hi, cells_w]
  simp only [List.range, List.range.loop, Op.eqItems]
  simp [go_sem, Try.underlying31, eqW2]
  by_cases h0 : a = c <;> by_cases h1 : b = d <;> simp [h0, h1]
theorem eqW2_iff {a b c d : Int} : eqW2 a b c d = true ↔ a = c ∧ b = d := by simp [eqW2]
theorem eqW4_iff {a b c d a' b' c' d' : Int} : eqW4 a b c d a' b' c' d' = true ↔ a = a' ∧ b = b' ∧ c = c' ∧ d = d' := by simp [eqW4, and_assoc]
theorem eqW2_yes {a b c d : Int} (h : a = c ∧ b = d) : eqW2 a b c d = true := eqW2_iff.2 h
theorem eqW4_yes {a b c d a' b' c' d' : Int} (h : a = a' ∧ b = b' ∧ c = c' ∧ d = d') : eqW4 a b c d a' b' c' d' = true := eqW4_iff.2 h
theorem eqW2_no {a b c d : Int} (h : ¬ (a = c ∧ b = d)) : eqW2 a b c d = false := by
  cases e : eqW2 a b c d
  · rfl
  · exact absurd (eqW2_iff.1 e) h
end Go.Proofs.Ytakofbkbbmpfeab

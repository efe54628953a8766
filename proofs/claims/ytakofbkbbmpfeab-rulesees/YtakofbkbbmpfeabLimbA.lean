/- Contracts of package limb's small functions. -/
import Derived.Test.YtakofbkbbmpfeabRows
import Derived.WalkKit
import Derived.WalkSpells
import Derived.WalkLawsBesides
import Derived.Test.YtakofbkbbmpfeabPlain
import Derived.Test.YtakofbkbbmpfeabEqs
namespace Go.Proofs.Ytakofbkbbmpfeab
open Go.RowKit

/-- It returned such a value, and nothing that was there has turned. -/
def Ret (w : World) (P : Value → Prop) (e : Ending) (w' : World) : Prop := ∃ v, P v ∧ e = .returned v ∧ Below w.heap.size w w'
def IsAgg2 (Q : Int → Int → Prop) (v : Value) : Prop := ∃ a b : Int, Q a b ∧ v = .agg #[.int .u64 a, .int .u64 b]
def IsAgg2Bool (Q : Int → Int → Bool → Prop) (v : Value) : Prop := ∃ (a b : Int) (p : Bool), Q a b p ∧ v = .tuple #[.agg #[.int .u64 a, .int .u64 b], .bool p]

theorem bcell {W w1 : World} (hb : Below W.heap.size W w1) : (∀ b o, b < W.heap.size → w1.cell? ⟨b, o, none⟩ = W.cell? ⟨b, o, none⟩) ∧ (∀ b o, b < W.heap.size → w1.frozen? ⟨b, o, none⟩ = W.frozen? ⟨b, o, none⟩) :=
  ⟨fun b o h => hb.cell (p := ⟨b, o, none⟩) h, fun b o h => hb.frozen (p := ⟨b, o, none⟩) h⟩

def IsAddW (a b c : Int) (v : Value) : Prop := ∃ s o : Int, AddW a b c s o ∧ v = .tuple #[.int .u64 s, .int .u64 o]
set_option maxHeartbeats 400000 in
theorem of_c (a : Int) (w : World) :
    Calls Try.prog 51 #[.int .u64 a] w (Ret w (· = .agg #[.int .u64 a, .int .u64 0])) := by
  go_enter Try.func51, Try.ntmps51
  go_wp2
  exact bodyPost_ret (v := .agg #[.int .u64 a, .int .u64 0]) (by simp [results, Try.results51, go_sem]) rfl ⟨_, rfl, rfl, (Below.refl _ _).alloc (Nat.le_refl _) _⟩

theorem subW_lt (a0 a1 b0 b1 : Int) (ha0 : U64 a0) (ha1 : U64 a1) (hb0 : U64 b0) (hb1 : U64 b1) (h : a0 < b0) :
    SubW a0 a1 b0 b1 (IntKind.u64.wrap (a0 - b0)) (IntKind.u64.wrap (IntKind.u64.wrap (a1 - b1) - 1)) := by
  simp only [SubW, U64, v2, IntKind.wrap_u64] at *
  omega
theorem subW_ge (a0 a1 b0 b1 : Int) (ha0 : U64 a0) (ha1 : U64 a1) (hb0 : U64 b0) (hb1 : U64 b1) (h : b0 ≤ a0) :
    SubW a0 a1 b0 b1 (IntKind.u64.wrap (a0 - b0)) (IntKind.u64.wrap (IntKind.u64.wrap (a1 - b1))) := by
  simp only [SubW, U64, v2, IntKind.wrap_u64] at *
  omega

/-- -1, 0, 1. -/
def cmpI (m n : Nat) : Int := if m = n then 0 else if m < n then -1 else 1
theorem cmp_eq {a0 a1 b0 b1 : Int} (h0 : a0 = b0) (h1 : a1 = b1) : cmpI (v2 a0 a1) (v2 b0 b1) = 0 := by subst h0; subst h1; simp [cmpI]
theorem cmp_lt {a0 a1 b0 b1 : Int} (ha0 : U64 a0) (ha1 : U64 a1) (hb0 : U64 b0) (hb1 : U64 b1) (h : a1 < b1 ∨ a1 = b1 ∧ a0 < b0) : cmpI (v2 a0 a1) (v2 b0 b1) = -1 := by
  simp only [U64] at *
  unfold cmpI v2
  rw [if_neg (by omega), if_pos (by omega)]
theorem cmp_gt {a0 a1 b0 b1 : Int} (ha0 : U64 a0) (ha1 : U64 a1) (hb0 : U64 b0) (hb1 : U64 b1) (h : b1 < a1 ∨ a1 = b1 ∧ b0 < a0) : cmpI (v2 a0 a1) (v2 b0 b1) = 1 := by
  simp only [U64] at *
  unfold cmpI v2
  rw [if_neg (by omega), if_neg (by omega)]

def IsInt (n : Int) (v : Value) : Prop := v = .int .i64 n
set_option maxHeartbeats 400000 in
theorem cmp_x (a0 a1 b0 b1 : Int) (w : World) (ha0 : U64 a0) (ha1 : U64 a1) (hb0 : U64 b0) (hb1 : U64 b1) :
    Calls Try.prog 53 #[.agg #[.int .u64 a0, .int .u64 a1], .agg #[.int .u64 b0, .int .u64 b1]] w fun e w' => e = .returned (.int .i64 (cmpI (v2 a0 a1) (v2 b0 b1))) ∧ (w.alloc (.cells #[.int .u64 a0, .int .u64 a1] 47)).alloc (.cells #[.int .u64 b0, .int .u64 b1] 47) = w' := by
  by_cases he : a0 = b0 ∧ a1 = b1
  · rw [cmp_eq he.1 he.2]
    have q := eqW2_yes he
    clear ha0 ha1 hb0 hb1 he
    go_enter Try.func53, Try.ntmps53
    go_wp2
    go_ret
    exact ⟨rfl, rfl⟩
  · have q := eqW2_no he
    by_cases h1 : a1 < b1
    · rw [cmp_lt ha0 ha1 hb0 hb1 (Or.inl h1)]
      clear ha0 ha1 hb0 hb1 he
      go_enter Try.func53, Try.ntmps53
      go_wp2
      go_ret
      exact ⟨rfl, rfl⟩
    · by_cases h2 : a1 = b1
      · have g2 : (a1 == b1) = true := by simp [h2]
        by_cases h3 : a0 < b0
        · rw [cmp_lt ha0 ha1 hb0 hb1 (Or.inr ⟨h2, h3⟩)]
          clear ha0 ha1 hb0 hb1 he h2
          go_enter Try.func53, Try.ntmps53
          go_wp2
          go_ret
          exact ⟨rfl, rfl⟩
        · rw [cmp_gt ha0 ha1 hb0 hb1 (Or.inr ⟨h2, by omega⟩)]
          clear ha0 ha1 hb0 hb1 he h2
          go_enter Try.func53, Try.ntmps53
          go_wp2
          go_ret
          exact ⟨rfl, rfl⟩
      · have g2 : (a1 == b1) = false := by simp [h2]
        rw [cmp_gt ha0 ha1 hb0 hb1 (Or.inl (by omega))]
        clear ha0 ha1 hb0 hb1 he h2
        go_enter Try.func53, Try.ntmps53
        go_wp2
        go_ret
        exact ⟨rfl, rfl⟩

theorem cmp_c (a0 a1 b0 b1 : Int) (w : World) (ha0 : U64 a0) (ha1 : U64 a1) (hb0 : U64 b0) (hb1 : U64 b1) :
    Calls Try.prog 53 #[.agg #[.int .u64 a0, .int .u64 a1], .agg #[.int .u64 b0, .int .u64 b1]] w (Ret w (IsInt (cmpI (v2 a0 a1) (v2 b0 b1)))) :=
  (cmp_x a0 a1 b0 b1 w ha0 ha1 hb0 hb1).mono fun _ _ ⟨he, hw⟩ => ⟨_, rfl, he, by subst hw; exact ((Below.refl _ _).alloc (Nat.le_refl _) _).alloc (by simp) _⟩

/-- a and b, where there is room. -/
def AddR (a0 a1 b0 b1 s0 s1 : Int) (p : Bool) : Prop :=
  U64 s0 ∧ U64 s1 ∧ (v2 a0 a1 + v2 b0 b1 < 340282366920938463463374607431768211456 ∧ p = true ∧ v2 s0 s1 = v2 a0 a1 + v2 b0 b1 ∨ 340282366920938463463374607431768211456 ≤ v2 a0 a1 + v2 b0 b1 ∧ p = false ∧ s0 = 0 ∧ s1 = 0)
theorem addR_no {a0 a1 b0 b1 s0 s1 o o' : Int} (ha0 : U64 a0) (ha1 : U64 a1) (hb0 : U64 b0) (hb1 : U64 b1) (h0 : AddW a0 b0 0 s0 o) (h1 : AddW a1 b1 o s1 o') (ho : o' ≠ 0) : AddR a0 a1 b0 b1 0 0 false := by
  simp only [AddR, AddW, U64, v2] at *
  refine ⟨by omega, by omega, Or.inr ⟨by omega, by simp⟩⟩
theorem addR_yes {a0 a1 b0 b1 s0 s1 o o' : Int} (ha0 : U64 a0) (ha1 : U64 a1) (hb0 : U64 b0) (hb1 : U64 b1) (h0 : AddW a0 b0 0 s0 o) (h1 : AddW a1 b1 o s1 o') (ho : o' = 0) : AddR a0 a1 b0 b1 s0 s1 true := by
  simp only [AddR, AddW, U64, v2] at *
  refine ⟨by omega, by omega, Or.inl ⟨by omega, by simp, by omega⟩⟩

end Go.Proofs.Ytakofbkbbmpfeab

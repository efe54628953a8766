/- Package dec: fits, Right, signed, checked. -/
import Derived.Test.YtakofbkbbmpfeaaHold
import Derived.Test.YtakofbkbbmpfeaaEqD
import Derived.Deep.QuietTactic
import Derived.BigQuiet
import Derived.Deep.RegionHeld3
namespace Go.Proofs.Ytakofbkbbmpfeaa
open Go.RowKit

theorem v2_end : v2 5076944270305263616 54210108624 = 1000000000000000000000000000000 := by decide
theorem u64_e0 : U64 5076944270305263616 := by unfold U64; omega
theorem u64_e1 : U64 54210108624 := by unfold U64; omega
def IsBool (b : Bool) (v : Value) : Prop := v = .bool b
/-- Fits it? -/
def fitB (c0 c1 : Int) : Bool := decide (v2 c0 c1 < 1000000000000000000000000000000)
set_option maxHeartbeats 400000 in
theorem fits_c (c0 c1 : Int) (w : World) (h0 : U64 c0) (h1 : U64 c1) : Calls Try.prog 74 #[.agg #[.int .u64 c0, .int .u64 c1]] w (Ret w (IsBool (fitB c0 c1))) := by
  obtain ⟨z, hz⟩ : ∃ z, cmpI (v2 c0 c1) 1000000000000000000000000000000 = z := ⟨_, rfl⟩
  have C := cmp_c c0 c1 5076944270305263616 54210108624 (w.alloc (.cells #[.int .u64 c0, .int .u64 c1] 47)) h0 h1 u64_e0 u64_e1
  rw [v2_end, hz] at C
  have e : fitB c0 c1 = decide (z < 0) := by
    unfold fitB
    rw [← hz]
    unfold cmpI
    by_cases h : v2 c0 c1 < 1000000000000000000000000000000
    · rw [if_neg (by omega), if_pos h]; simp [h]
    · by_cases h' : v2 c0 c1 = 1000000000000000000000000000000
      · rw [if_pos h']; simp [h']
      · rw [if_neg h', if_neg h]; simp [h]
  rw [e]
  have HC := Lib.hid C
  clear C e hz
  go_enter Try.func74, Try.ntmps74
  go_wp2_with fail
  refine HC.out.mono ?_
  rintro e w1 ⟨_, rfl, rfl, hb⟩
  have HB1 : Below w.heap.size w w1 := ((Below.refl _ _).alloc (Nat.le_refl _) _).trans (hb.mono (by simp))
  clear HC hb
  go_wp2
  go_ret
  exact ⟨_, rfl, rfl, HB1⟩

/-- A decimal in a block. -/
theorem HB.dec {w0 w : World} {bs : List (Nat × TypeId × Array Value)} {g : Nat} {t : TypeId} {a b c d : Value} (h : HB w0 bs w) (hm : (g, t, #[a, b, c, d]) ∈ bs) : g < w.heap.size ∧ w.cell? ⟨g, 0, none⟩ = some a ∧ w.cell? ⟨g, 1, none⟩ = some b ∧ w.cell? ⟨g, 2, none⟩ = some c ∧ w.cell? ⟨g, 3, none⟩ = some d := HB.four h hm
def RightD (n : Bool) (c0 c1 s : Int) : Prop := v2 c0 c1 < 1000000000000000000000000000000 ∧ 0 ≤ s ∧ s ≤ 9 ∧ ¬ (n = true ∧ v2 c0 c1 = 0)
instance (n : Bool) (c0 c1 s : Int) : Decidable (RightD n c0 c1 s) := by unfold RightD; exact inferInstance
theorem right_fit {n : Bool} {c0 c1 s : Int} (h : RightD n c0 c1 s) : fitB c0 c1 = true := by unfold fitB; simp [h.1]
theorem d1 (w : World) (n : Bool) (c0 c1 s : Int) : HB w [(w.heap.size, 49, #[.bool n, .int .u64 c0, .int .u64 c1, .int .i64 s])] (w.alloc (.cells #[.bool n, .int .u64 c0, .int .u64 c1, .int .i64 s] 49)) :=
  (HB.start (Below.refl _ w)).push #[.bool n, .int .u64 c0, .int .u64 c1, .int .i64 s] 49
set_option maxRecDepth 100000 in
set_option maxHeartbeats 800000 in
theorem right_c (n : Bool) (c0 c1 s : Int) (w : World) (h0 : U64 c0) (h1 : U64 c1) : Calls Try.prog 72 #[.agg #[.bool n, .int .u64 c0, .int .u64 c1, .int .i64 s]] w (Ret w (IsBool (decide (RightD n c0 c1 s)))) := by
  have W := Lib.hid (d1 w n c0 c1 s)
  by_cases hs : s < 0
  · have e : decide (RightD n c0 c1 s) = false := by simp [RightD]; omega
    rw [e]
    clear e
    go_enter Try.func72, Try.ntmps72
    go_wp2
    go_ret
    exact ⟨_, rfl, rfl, W.out.1⟩
  · have g1 : decide (s < 0) = false := by simp; omega
    by_cases hs9 : 9 < s
    · have e : decide (RightD n c0 c1 s) = false := by simp [RightD]; omega
      rw [e]
      clear e
      go_enter Try.func72, Try.ntmps72
      go_wp2
      go_ret
      exact ⟨_, rfl, rfl, W.out.1⟩
    · have g2 : decide (9 < s) = false := by simp; omega
      have C := fits_c c0 c1 (w.alloc (.cells #[.bool n, .int .u64 c0, .int .u64 c1, .int .i64 s] 49)) h0 h1
      by_cases hf : v2 c0 c1 < 1000000000000000000000000000000
      · have ef : fitB c0 c1 = true := by unfold fitB; simp [hf]
        rw [ef] at C
        obtain ⟨β, hβ⟩ : ∃ β, eqDec n c0 c1 s true 0 0 s = β := ⟨_, rfl⟩
        have e : decide (RightD n c0 c1 s) = !β := by
          cases β
          · have h2 : ¬ (n = true ∧ v2 c0 c1 = 0) := fun h => by
              obtain ⟨z0, z1⟩ := (v2_zero h0 h1).1 h.2
              rw [eqDec_iff.2 ⟨h.1, z0, z1, rfl⟩] at hβ
              cases hβ
            simp [RightD]
            exact ⟨hf, by omega, by omega, by
              by_cases hn : n = true
              · exact Or.inr fun h' => h2 ⟨hn, h'⟩
              · exact Or.inl (by simpa using hn)⟩
          · obtain ⟨e1, e2, e3, _⟩ := eqDec_iff.1 hβ
            have : v2 c0 c1 = 0 := (v2_zero h0 h1).2 ⟨e2, e3⟩
            simp [RightD, e1, this]
        rw [e]
        have HC := Lib.hid C
        clear C e ef hf hs hs9
        have hβ2 : (n = false ∧ β = false) ∨ (n = true ∧ eqW2 c0 c1 0 0 = β) := by
          cases n
          · exact Or.inl ⟨rfl, by rw [← hβ]; rfl⟩
          · refine Or.inr ⟨rfl, ?_⟩
            rw [← hβ]
            simp [eqDec]
        clear hβ
        rcases hβ2 with ⟨rfl, rfl⟩ | ⟨rfl, hβ⟩
        all_goals
          go_enter Try.func72, Try.ntmps72
          go_wp2_with fail
          refine HC.out.mono ?_
          rintro e w1 ⟨_, rfl, rfl, hb⟩
          have W1 := W.out.below hb
          obtain ⟨lg, q0, q1, q2, q3⟩ := HB.dec (t := 49) (g := w.heap.size) (a := .bool _) (b := .int .u64 c0) (c := .int .u64 c1) (d := .int .i64 s) W1 (by simp; rfl)
          have HB1 := Lib.hid W1.1
          clear HC hb W W1
          try cases β
          all_goals
            go_wp2
            go_ret
            exact ⟨_, rfl, rfl, HB1.out⟩
      · have ef : fitB c0 c1 = false := by unfold fitB; simp; omega
        rw [ef] at C
        have e : decide (RightD n c0 c1 s) = false := by simp [RightD]; omega
        rw [e]
        have HC := Lib.hid C
        clear C e ef hf hs hs9
        go_enter Try.func72, Try.ntmps72
        go_wp2_with fail
        refine HC.out.mono ?_
        rintro e w1 ⟨_, rfl, rfl, hb⟩
        have W1 := W.out.below hb
        have HB1 := Lib.hid W1.1
        clear HC hb W W1
        go_wp2
        go_ret
        exact ⟨_, rfl, rfl, HB1.out⟩

/-- The sign that signed gives. -/
def sgn (n : Bool) (c0 c1 : Int) : Bool := n && !eqW2 c0 c1 0 0
/-- The decimal z by ten to the s; what calls answer. -/
def decV (z s : Int) : Value := .agg #[.bool (decide (z < 0)), .int .u64 ((z.natAbs % 18446744073709551616 : Nat) : Int), .int .u64 ((z.natAbs / 18446744073709551616 : Nat) : Int), .int .i64 s]
def okV (z s : Int) : Value := .tuple #[decV z s, .int .i64 0]
def errV (e : Int) : Value := .tuple #[decV 0 0, .int .i64 e]
def zOf (n : Bool) (N : Nat) : Int := if n then -(N : Int) else (N : Int)
def chkV (n : Bool) (N : Nat) (s : Int) : Value := if N < 1000000000000000000000000000000 ∧ 0 ≤ s ∧ s ≤ 9 then okV (zOf n N) s else errV 3
theorem zOf_abs (n : Bool) (N : Nat) : (zOf n N).natAbs = N := by unfold zOf; split <;> omega
theorem zOf_neg (n : Bool) (N : Nat) : decide (zOf n N < 0) = (n && !decide (N = 0)) := by
  unfold zOf
  cases n
  · simp
  · by_cases h : N = 0
    · subst h; simp
    · simp [h]; omega
theorem v2_words {c0 c1 : Int} (h0 : U64 c0) (h1 : U64 c1) : ((v2 c0 c1 % 18446744073709551616 : Nat) : Int) = c0 ∧ ((v2 c0 c1 / 18446744073709551616 : Nat) : Int) = c1 := by
  unfold U64 v2 at *
  omega
theorem eqW2_0 {c0 c1 : Int} (h0 : U64 c0) (h1 : U64 c1) : eqW2 c0 c1 0 0 = decide (v2 c0 c1 = 0) := by
  by_cases h : v2 c0 c1 = 0
  · rw [eqW2_yes ((v2_zero h0 h1).1 h)]; simp [h]
  · rw [eqW2_no (fun g => h ((v2_zero h0 h1).2 g))]; simp [h]
theorem dec_of {n : Bool} {c0 c1 s : Int} (h0 : U64 c0) (h1 : U64 c1) : Value.agg #[.bool (sgn n c0 c1), .int .u64 c0, .int .u64 c1, .int .i64 s] = decV (zOf n (v2 c0 c1)) s := by
  obtain ⟨e0, e1⟩ := v2_words h0 h1
  unfold decV
  rw [zOf_abs, e0, e1, zOf_neg, sgn, eqW2_0 h0 h1]
theorem sgn_right {n : Bool} {c0 c1 s : Int} (h0 : U64 c0) (h1 : U64 c1) : RightD (sgn n c0 c1) c0 c1 s ↔ v2 c0 c1 < 1000000000000000000000000000000 ∧ 0 ≤ s ∧ s ≤ 9 := by
  unfold RightD
  constructor
  · rintro ⟨a, b, c, _⟩; exact ⟨a, b, c⟩
  · rintro ⟨a, b, c⟩
    refine ⟨a, b, c, ?_⟩
    rintro ⟨d, e⟩
    rw [sgn, eqW2_0 h0 h1, e] at d
    simp at d

end Go.Proofs.Ytakofbkbbmpfeaa

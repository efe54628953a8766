/- Chapter 9, plainly: Right as a Bool, All and Has as values; how the code reckons All; ints that come in. -/
import Derived.Test.YtiocmkaplblelaaLabC
import Derived.Test.YtiocmkaplblelaaRoleP
namespace Go.Proofs.Ytiocmkaplblelaa
open Go.RowKit
/-- One shifted. -/
def bN (k : Nat) : Nat := if k < 64 then 2 ^ k else 0
theorem bN_of {k : Nat} (h : k < 64) : bN k = 2 ^ k := if_pos h
theorem pow64 {k : Nat} (h : k < 64) : 2 ^ k < 18446744073709551616 := by
  have : 2 ^ k ≤ 2 ^ 63 := Nat.pow_le_pow_right (by decide) (by omega)
  have e : (2 : Nat) ^ 63 = 9223372036854775808 := rfl
  omega
theorem bN_lt (k : Nat) : bN k < 18446744073709551616 := by
  unfold bN
  split
  · exact pow64 ‹_›
  · decide
theorem wrap_nat {p : Nat} (h : p < 18446744073709551616) : IntKind.u64.wrap (p : Int) = (p : Int) := by
  simp [IntKind.wrap, IntKind.signed, IntKind.bits]
  omega
theorem shl_one (k : Nat) (hk : k < 18446744073709551616) : IntKind.u64.wrap (2 ^ min (IntKind.u64.wrap (k : Int)).toNat 64) = ((bN k : Nat) : Int) := by
  rw [wrap_nat hk, Int.toNat_natCast]
  unfold bN
  split
  · rw [Nat.min_eq_left (by omega)]
    have e2 : (2 : Int) ^ k = ((2 ^ k : Nat) : Int) := by simp
    rw [e2, wrap_nat (pow64 (k := k) ‹_›)]
  · rw [Nat.min_eq_right (by omega)]
    decide
/-- Is a list of parents right? -/
def rightL (L : List Int) : Bool := decide (L.length ≤ 8) && (List.range L.length).all fun i => decide (-1 ≤ L.getD i 0 ∧ L.getD i 0 < (i : Int))
theorem getD_some {L : List Int} {i : Nat} (h : i < L.length) : L[i]? = some (L.getD i 0) := by
  rw [List.getD_eq_getElem?_getD, List.getElem?_eq_getElem h]
  rfl
theorem some_lt {L : List Int} {i : Nat} {x : Int} (e : L[i]? = some x) : i < L.length ∧ x = L.getD i 0 := by
  have h := (List.getElem?_eq_some_iff.1 e).1
  refine ⟨h, ?_⟩
  rw [getD_some h] at e
  exact (Option.some.inj e).symm
theorem rightL_iff {L : List Int} : rightL L = true ↔ RightR L := by
  unfold rightL RightR
  rw [Bool.and_eq_true, decide_eq_true_eq, List.all_eq_true]
  constructor
  · rintro ⟨h1, h2⟩
    refine ⟨h1, fun i x e => ?_⟩
    obtain ⟨hi, rfl⟩ := some_lt e
    exact of_decide_eq_true (h2 i (List.mem_range.2 hi))
  · rintro ⟨h1, h2⟩
    refine ⟨h1, fun i hi => decide_eq_true ?_⟩
    exact h2 i _ (getD_some (List.mem_range.1 hi))
theorem rightL_go {L : List Int} (h : L.length ≤ 8) : rightL L = true ↔ rightGo L L.length := rightL_iff.trans (right_go h)
theorem rightL_long {L : List Int} (h : 8 < L.length) : rightL L = false := by
  unfold rightL
  rw [decide_eq_false (by omega), Bool.false_and]
theorem rightL_bad {L : List Int} {i : Nat} {x : Int} (e : L[i]? = some x) (h : x < -1 ∨ (i : Int) ≤ x) : rightL L = false := by
  rw [Bool.eq_false_iff]
  intro g
  have := (rightL_iff.1 g).2 i x e
  omega
def allV (L : List Int) (r : Nat) : Nat := if rightL L then allN L r else 0
theorem allV_right {L : List Int} (h : rightL L = true) (r : Nat) : allV L r = allN L r := if_pos h
theorem allV_wrong {L : List Int} (h : rightL L = false) (r : Nat) : allV L r = 0 := by
  unfold allV
  rw [h]
  rfl
theorem allV_lt (L : List Int) (r : Nat) : allV L r < 256 := by
  unfold allV
  split
  · have h := rightL_iff.1 ‹_›
    have h1 := allN_lt h r
    have h2 : 2 ^ L.length ≤ 2 ^ 8 := Nat.pow_le_pow_right (by decide) h.1
    have e : (2 : Nat) ^ 8 = 256 := rfl
    omega
  · decide
theorem allV_lt_len (L : List Int) (r m : Nat) (h : (allV L r).testBit m = true) : m < L.length := by
  unfold allV at h
  split at h
  · exact ((allN_bit (rightL_iff.1 ‹_›) r m).1 h).lt (rightL_iff.1 ‹_›)
  · rw [Nat.zero_testBit] at h
    cases h
def hasV (L : List Int) (r : Nat) (k : Int) : Bool := decide (0 ≤ k) && (allV L r).testBit k.toNat
/-- As the code reckons it: from the last role down, each that is in takes its parent in. -/
def AllC (L : List Int) (r i a : Nat) : Prop := ∀ m, a.testBit m = true ↔ (m < L.length ∧ r.testBit m = true) ∨ ∃ j, i ≤ j ∧ InA L (fun k => r.testBit k = true) j ∧ L[j]? = some (m : Int)
theorem allC_start {L : List Int} (h : RightR L) (r : Nat) : AllC L r L.length (r &&& (2 ^ L.length - 1)) := by
  intro m
  rw [Nat.and_two_pow_sub_one_eq_mod, Nat.testBit_mod_two_pow, Bool.and_eq_true, decide_eq_true_eq]
  constructor
  · exact .inl
  · rintro (h1 | ⟨j, h1, h2, _⟩)
    · exact h1
    · have := h2.lt h
      omega
theorem allC_end {L : List Int} (h : RightR L) {r a : Nat} (I : AllC L r 0 a) : a = allN L r := by
  refine Nat.eq_of_testBit_eq fun m => ?_
  rw [Bool.eq_iff_iff, allN_bit h, I m]
  constructor
  · rintro (⟨h1, h2⟩ | ⟨j, _, h2, h3⟩)
    · exact .own m h1 h2
    · exact .up j m h2 h3
  · intro g
    cases g with
    | own _ h1 h2 => exact .inl ⟨h1, h2⟩
    | up j _ h2 h3 => exact .inr ⟨j, Nat.zero_le _, h2, h3⟩
/-- Whether role i is in, is told by the time that its turn comes. -/
theorem allC_has {L : List Int} (h : RightR L) {r i a : Nat} (I : AllC L r (i + 1) a) : a.testBit i = true ↔ InA L (fun k => r.testBit k = true) i := by
  rw [I i]
  constructor
  · rintro (⟨h1, h2⟩ | ⟨j, _, h2, h3⟩)
    · exact .own i h1 h2
    · exact .up j i h2 h3
  · intro g
    cases g with
    | own _ h1 h2 => exact .inl ⟨h1, h2⟩
    | up j _ h2 h3 => exact .inr ⟨j, (h.lt h3).1, h2, h3⟩
theorem allC_skip {L : List Int} (h : RightR L) {r i a : Nat} (I : AllC L r (i + 1) a) (hs : a.testBit i = false ∨ L[i]? = some (-1)) : AllC L r i a := by
  intro m
  rw [I m]
  constructor
  · rintro (h1 | ⟨j, h1, h2⟩)
    · exact .inl h1
    · exact .inr ⟨j, by omega, h2⟩
  · rintro (h1 | ⟨j, h1, h2, h3⟩)
    · exact .inl h1
    · rcases Nat.lt_or_ge i j with g | g
      · exact .inr ⟨j, g, h2, h3⟩
      · obtain rfl : j = i := by omega
        rcases hs with hs | hs
        · rw [(allC_has h I).2 h2] at hs
          cases hs
        · rw [hs] at h3
          have := Option.some.inj h3
          omega
theorem allC_step {L : List Int} (h : RightR L) {r i a p : Nat} (I : AllC L r (i + 1) a) (hs : a.testBit i = true) (hp : L[i]? = some (p : Int)) : AllC L r i (a ||| 2 ^ p) := by
  intro m
  rw [bit_or, I m]
  constructor
  · rintro ((h1 | ⟨j, h1, h2⟩) | rfl)
    · exact .inl h1
    · exact .inr ⟨j, by omega, h2⟩
    · exact .inr ⟨i, Nat.le_refl _, (allC_has h I).1 hs, hp⟩
  · rintro (h1 | ⟨j, h1, h2, h3⟩)
    · exact .inl (.inl h1)
    · rcases Nat.lt_or_ge i j with g | g
      · exact .inl (.inr ⟨j, g, h2, h3⟩)
      · obtain rfl : j = i := by omega
        rw [hp] at h3
        have := Option.some.inj h3
        exact .inr (by omega)
theorem allC_lt {L : List Int} (h : RightR L) {r i a : Nat} (I : AllC L r i a) : a < 256 := by
  have e : (2 : Nat) ^ 8 = 256 := rfl
  rw [← e]
  refine Nat.lt_pow_two_of_testBit _ fun m hm => ?_
  rw [Bool.eq_false_iff]
  intro g
  have h8 := h.1
  rcases (I m).1 g with ⟨h1, _⟩ | ⟨j, _, _, h3⟩
  · omega
  · have := h.lt h3
    omega
/-- A slice of ints that reads as L, below block B. -/
def IL (w : World) (B : Nat) (A : Option Addr) (n c : Nat) (L : List Int) : Prop :=
  L.length = n ∧ n ≤ c ∧ (0 < n → ∃ g o, A = some ⟨g, o, none⟩ ∧ g < B ∧ ∀ j, j < n → w.cell? ⟨g, o + j, none⟩ = some (.int .i64 (L.getD j 0)))
section
variable {w w' : World} {B B' n c : Nat} {A : Option Addr} {L : List Int}
theorem IL.len (h : IL w B A n c L) : L.length = n := h.1
theorem IL.below (h : IL w B A n c L) (hb : Below B w w') : IL w' B A n c L :=
  ⟨h.1, h.2.1, fun hn => by
    obtain ⟨g, o, e, hg, hc⟩ := h.2.2 hn
    exact ⟨g, o, e, hg, fun j hj => (hb.cell (p := ⟨g, o + j, none⟩) hg).trans (hc j hj)⟩⟩
theorem IL.more (h : IL w B A n c L) (hB : B ≤ B') : IL w B' A n c L :=
  ⟨h.1, h.2.1, fun hn => by
    obtain ⟨g, o, e, hg, hc⟩ := h.2.2 hn
    exact ⟨g, o, e, by omega, hc⟩⟩
theorem IL.drew (h : IL w B A n c L) : IL w.drew B A n c L := h
theorem IL.at_ (h : IL w B A n c L) {k : Nat} (hk : k < n) : ∃ g o, A = some ⟨g, o, none⟩ ∧ g < B ∧ w.cell? ⟨g, o + k, none⟩ = some (.int .i64 (L.getD k 0)) ∧ L[k]? = some (L.getD k 0) := by
  obtain ⟨g, o, e, hg, hc⟩ := h.2.2 (by omega)
  exact ⟨g, o, e, hg, hc k hk, getD_some (by rw [h.1]; exact hk)⟩
/-- The first k of them. -/
theorem IL.head (h : IL w B A n c L) {k : Nat} (hk : k ≤ n) : IL w B A k c (L.take k) := by
  refine ⟨by rw [List.length_take, h.1]; omega, by have := h.2.1; omega, fun h0 => ?_⟩
  obtain ⟨g, o, rfl, hg, hc⟩ := h.2.2 (by omega)
  refine ⟨g, o, rfl, hg, fun j hj => ?_⟩
  rw [hc j (by omega), List.getD_eq_getElem?_getD, List.getD_eq_getElem?_getD, List.getElem?_take, if_pos hj]
end
end Go.Proofs.Ytiocmkaplblelaa

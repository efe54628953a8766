/- Chapter 9, plainly: roles that have others. -/
/- Chapter 9, plainly: Right as a Bool, All and Has as values; how the code reckons All; ints that come in. -/
import Derived.WalkKit
import Derived.Test.YtakofbkbbmpfeaaLabC
namespace Go.Proofs.Ytakofbkbbmpfeaa
/-- At most eight, each -1 or below its own number. -/
def RoleR (L : List Int) : Prop := L.length ≤ 8 ∧ ∀ (i : Nat) (x : Int), L[i]? = some x → -1 ≤ x ∧ x < (i : Int)
/-- Those given, of those there are, with their parents, and theirs. -/
inductive InA (L : List Int) (r : Nat → Prop) : Nat → Prop
  | own (i : Nat) : i < L.length → r i → InA L r i
  | up (j i : Nat) : InA L r j → L[j]? = some (i : Int) → InA L r i
theorem RoleR.lt {L : List Int} (h : RoleR L) {i j : Nat} (e : L[j]? = some (i : Int)) : i < j ∧ j < L.length := by
  have h1 := (h.2 j _ e).2
  refine ⟨by omega, ?_⟩
  rcases Nat.lt_or_ge j L.length with g | g
  · exact g
  · rw [List.getElem?_eq_none g] at e
    cases e
theorem InA.lt {L : List Int} {r : Nat → Prop} (h : RoleR L) {m : Nat} (a : InA L r m) : m < L.length := by
  induction a with
  | own i hi _ => exact hi
  | up j i _ e ih => have := h.lt e; omega
theorem InA.mono {L : List Int} {r s : Nat → Prop} (hrs : ∀ i, i < L.length → r i → s i) {m : Nat} (a : InA L r m) : InA L s m := by
  induction a with
  | own i hi hr => exact .own i hi (hrs i hi hr)
  | up j i _ e ih => exact .up j i ih e
theorem InA.or {L : List Int} {r s : Nat → Prop} {m : Nat} : InA L (fun i => r i ∨ s i) m ↔ InA L r m ∨ InA L s m := by
  constructor
  · intro a
    induction a with
    | own i hi hr =>
      rcases hr with hr | hr
      · exact .inl (.own i hi hr)
      · exact .inr (.own i hi hr)
    | up j i _ e ih =>
      rcases ih with ih | ih
      · exact .inl (.up j i ih e)
      · exact .inr (.up j i ih e)
  · rintro (a | a)
    · exact a.mono fun _ _ h => .inl h
    · exact a.mono fun _ _ h => .inr h
theorem InA.idem {L : List Int} {r : Nat → Prop} (h : RoleR L) {m : Nat} : InA L (InA L r) m ↔ InA L r m := by
  constructor
  · intro a
    induction a with
    | own i _ hr => exact hr
    | up j i _ e ih => exact .up j i ih e
  · intro a
    exact .own m (a.lt h) a
/-- The document's reckoning: from the last role down to the first. -/
def allGo (L : List Int) (r : Nat) : Nat → Nat → Nat
  | 0, out => out
  | i + 1, out => allGo L r i (if r.testBit i || out.testBit i then (if 0 ≤ L.getD i (-1) then (out ||| 2 ^ i) ||| 2 ^ (L.getD i (-1)).toNat else out ||| 2 ^ i) else out)
def allN (L : List Int) (r : Nat) : Nat := allGo L r L.length 0
def AllI (L : List Int) (r i out : Nat) : Prop := ∀ m, out.testBit m = true ↔ (i ≤ m ∧ InA L (fun k => r.testBit k = true) m) ∨ ∃ j, i ≤ j ∧ InA L (fun k => r.testBit k = true) j ∧ L[j]? = some (m : Int)
theorem allI_start {L : List Int} (h : RoleR L) (r : Nat) : AllI L r L.length 0 := by
  intro m
  rw [Nat.zero_testBit]
  constructor
  · intro e
    cases e
  · rintro (⟨h1, h2⟩ | ⟨j, h1, h2, _⟩)
    · have := h2.lt h
      omega
    · have := h2.lt h
      omega
theorem allI_has {L : List Int} (h : RoleR L) {r i out : Nat} (hi : i < L.length) (I : AllI L r (i + 1) out) : (r.testBit i || out.testBit i) = true ↔ InA L (fun k => r.testBit k = true) i := by
  rw [Bool.or_eq_true]
  constructor
  · rintro (e | e)
    · exact .own i hi e
    · rcases (I i).1 e with ⟨h1, _⟩ | ⟨j, _, h2, h3⟩
      · omega
      · exact .up j i h2 h3
  · intro a
    cases a with
    | own _ _ e => exact .inl e
    | up j _ a e =>
      refine .inr ((I i).2 (.inr ⟨j, ?_, a, e⟩))
      have := h.lt e
      omega
theorem bit_or {a i m : Nat} : (a ||| 2 ^ i).testBit m = true ↔ a.testBit m = true ∨ i = m := by
  rw [Nat.testBit_or, Nat.testBit_two_pow, Bool.or_eq_true, decide_eq_true_eq]
theorem allI_step {L : List Int} (h : RoleR L) {r i out : Nat} (hi : i < L.length) (I : AllI L r (i + 1) out) :
    AllI L r i (if r.testBit i || out.testBit i then (if 0 ≤ L.getD i (-1) then (out ||| 2 ^ i) ||| 2 ^ (L.getD i (-1)).toNat else out ||| 2 ^ i) else out) := by
  have hg : L[i]? = some (L.getD i (-1)) := by
    rw [List.getD_eq_getElem?_getD, List.getElem?_eq_getElem hi]
    rfl
  generalize L.getD i (-1) = p at hg ⊢
  have hH := allI_has h hi I
  have hsame : ∀ m, ((i ≤ m ∧ InA L (fun k => r.testBit k = true) m) ∨ ∃ j, i ≤ j ∧ InA L (fun k => r.testBit k = true) j ∧ L[j]? = some (m : Int)) ↔
      (out.testBit m = true ∨ (InA L (fun k => r.testBit k = true) i ∧ (m = i ∨ p = (m : Int)))) := by
    intro m
    rw [I m]
    constructor
    · rintro (⟨h1, h2⟩ | ⟨j, h1, h2, h3⟩)
      · rcases Nat.lt_or_ge i m with g | g
        · exact .inl (.inl ⟨g, h2⟩)
        · obtain rfl : m = i := by omega
          exact .inr ⟨h2, .inl rfl⟩
      · rcases Nat.lt_or_ge i j with g | g
        · exact .inl (.inr ⟨j, g, h2, h3⟩)
        · obtain rfl : j = i := by omega
          refine .inr ⟨h2, .inr ?_⟩
          rw [hg] at h3
          exact Option.some.inj h3
    · rintro ((⟨h1, h2⟩ | ⟨j, h1, h2, h3⟩) | ⟨h1, rfl | rfl⟩)
      · exact .inl ⟨by omega, h2⟩
      · exact .inr ⟨j, by omega, h2, h3⟩
      · exact .inl ⟨Nat.le_refl _, h1⟩
      · exact .inr ⟨i, Nat.le_refl _, h1, hg⟩
  intro m
  rw [hsame m]
  by_cases hb : (r.testBit i || out.testBit i) = true
  · rw [if_pos hb]
    have hA := hH.1 hb
    by_cases hp : 0 ≤ p
    · rw [if_pos hp, bit_or, bit_or]
      constructor
      · rintro ((e | e) | e)
        · exact .inl e
        · exact .inr ⟨hA, .inl e.symm⟩
        · exact .inr ⟨hA, .inr (by omega)⟩
      · rintro (e | ⟨_, e | e⟩)
        · exact .inl (.inl e)
        · exact .inl (.inr e.symm)
        · exact .inr (by omega)
    · rw [if_neg hp, bit_or]
      constructor
      · rintro (e | e)
        · exact .inl e
        · exact .inr ⟨hA, .inl e.symm⟩
      · rintro (e | ⟨_, e | e⟩)
        · exact .inl e
        · exact .inr e.symm
        · omega
  · rw [if_neg hb]
    constructor
    · exact .inl
    · rintro (e | ⟨a, _⟩)
      · exact e
      · exact absurd (hH.2 a) hb
theorem allGo_bits {L : List Int} (h : RoleR L) (r : Nat) : ∀ (i out : Nat), i ≤ L.length → AllI L r i out → AllI L r 0 (allGo L r i out)
  | 0, _, _, I => I
  | i + 1, _, hi, I => allGo_bits h r i _ (by omega) (allI_step h (by omega) I)
/-- Bit m of All: is m among those given and their parents? -/
theorem allN_bit {L : List Int} (h : RoleR L) (r m : Nat) : (allN L r).testBit m = true ↔ InA L (fun k => r.testBit k = true) m := by
  have I := allGo_bits h r L.length 0 (Nat.le_refl _) (allI_start h r) m
  unfold allN
  rw [I]
  constructor
  · rintro (⟨_, a⟩ | ⟨j, _, a, e⟩)
    · exact a
    · exact .up j m a e
  · intro a
    exact .inl ⟨Nat.zero_le _, a⟩
theorem allN_lt {L : List Int} (h : RoleR L) (r : Nat) : allN L r < 2 ^ L.length := by
  refine Nat.lt_pow_two_of_testBit _ fun i hi => ?_
  rw [Bool.eq_false_iff]
  intro e
  have := ((allN_bit h r i).1 e).lt h
  omega
/-- What is told of All: only those there are; those given, of those there are; its own All; of two, what both have; a parent with each. -/
theorem allN_own {L : List Int} (h : RoleR L) (r : Nat) {m : Nat} (hm : m < L.length) (e : r.testBit m = true) : (allN L r).testBit m = true := (allN_bit h r m).2 (.own m hm e)
theorem allN_idem {L : List Int} (h : RoleR L) (r : Nat) : allN L (allN L r) = allN L r := by
  refine Nat.eq_of_testBit_eq fun m => ?_
  rw [Bool.eq_iff_iff, allN_bit h, allN_bit h]
  have e : (fun k => (allN L r).testBit k = true) = InA L (fun k => r.testBit k = true) := by
    funext k
    exact propext (allN_bit h r k)
  rw [e, InA.idem h]
theorem allN_or {L : List Int} (h : RoleR L) (r s : Nat) : allN L (r ||| s) = allN L r ||| allN L s := by
  refine Nat.eq_of_testBit_eq fun m => ?_
  rw [Bool.eq_iff_iff, allN_bit h, Nat.testBit_or, Bool.or_eq_true, allN_bit h, allN_bit h, ← InA.or]
  have e : (fun k => (r ||| s).testBit k = true) = fun k => r.testBit k = true ∨ s.testBit k = true := by
    funext k
    rw [Nat.testBit_or, Bool.or_eq_true]
  rw [e]
theorem allN_up {L : List Int} (h : RoleR L) (r : Nat) {j i : Nat} (a : (allN L r).testBit j = true) (e : L[j]? = some (i : Int)) : (allN L r).testBit i = true := (allN_bit h r i).2 (.up j i ((allN_bit h r j).1 a) e)
/-- A chain of roles, each the next one's parent; roles alone. -/
def chainL (n : Nat) : List Int := (List.range n).map fun (i : Nat) => (i : Int) - 1
def aloneL (n : Nat) : List Int := List.replicate n (-1)
theorem chain_all : ∀ n, n < 9 → ∀ k, k < n → allN (chainL n) (2 ^ k) = 2 ^ (k + 1) - 1 ∧ allN (aloneL n) (2 ^ k) = 2 ^ k := by decide +kernel
theorem alone_right {n : Nat} (h : n ≤ 8) : RoleR (aloneL n) := by
  refine ⟨by unfold aloneL; rw [List.length_replicate]; exact h, fun i x e => ?_⟩
  unfold aloneL at e
  rw [List.getElem?_replicate] at e
  split at e
  · obtain rfl := Option.some.inj e
    omega
  · cases e
theorem chain_right {n : Nat} (h : n ≤ 8) : RoleR (chainL n) := by
  refine ⟨by unfold chainL; rw [List.length_map, List.length_range]; exact h, fun i x e => ?_⟩
  unfold chainL at e
  rw [List.getElem?_map] at e
  rcases Nat.lt_or_ge i n with g | g
  · rw [List.getElem?_range g] at e
    obtain rfl := Option.some.inj e
    show -1 ≤ (i : Int) - 1 ∧ (i : Int) - 1 < (i : Int)
    omega
  · rw [List.getElem?_eq_none (by rw [List.length_range]; exact g)] at e
    cases e
/-- Are they right? As a loop tells it: from the first on. -/
def rightGo (L : List Int) (i : Nat) : Prop := ∀ (j : Nat) (x : Int), j < i → L[j]? = some x → -1 ≤ x ∧ x < (j : Int)
theorem rightGo_zero (L : List Int) : rightGo L 0 := fun j _ h _ => by omega
theorem rightGo_succ {L : List Int} {i : Nat} {x : Int} (e : L[i]? = some x) : rightGo L (i + 1) ↔ rightGo L i ∧ -1 ≤ x ∧ x < (i : Int) := by
  constructor
  · intro h
    exact ⟨fun j y hj ey => h j y (by omega) ey, h i x (by omega) e⟩
  · rintro ⟨h1, h2⟩ j y hj ey
    rcases Nat.lt_or_ge j i with g | g
    · exact h1 j y g ey
    · obtain rfl : j = i := by omega
      rw [e] at ey
      obtain rfl := Option.some.inj ey
      exact h2
theorem right_go {L : List Int} (h : L.length ≤ 8) : RoleR L ↔ rightGo L L.length := by
  constructor
  · intro g j x _ e
    exact g.2 j x e
  · intro g
    refine ⟨h, fun i x e => g i x ?_ e⟩
    rcases Nat.lt_or_ge i L.length with a | a
    · exact a
    · rw [List.getElem?_eq_none a] at e
      cases e
end Go.Proofs.Ytakofbkbbmpfeaa

namespace Go.Proofs.Ytakofbkbbmpfeaa
open Go.RowKit
/-- One shifted. -/
def bN (k : Nat) : Nat := if k < 64 then 2 ^ k else 0
theorem bN_of {k : Nat} (h : k < 64) : bN k = 2 ^ k := if_pos h
theorem pow64 {k : Nat} (h : k < 64) : 2 ^ k < 18446744073709551616 := by
  have : 2 ^ k ≤ 2 ^ 63 := Nat.pow_le_pow_right (by decide) (by omega)
  have e : (2 : Nat) ^ 63 = 9223372036854775808 := rfl
  omega
theorem bN_lt (k : Nat) : bN k < 18446744073709551616 := by
  unfold bN
  split
  · exact pow64 ‹_›
  · decide
theorem wrapN {p : Nat} (h : p < 18446744073709551616) : IntKind.u64.wrap (p : Int) = (p : Int) := by
  simp [IntKind.wrap, IntKind.signed, IntKind.bits]
  omega
theorem shl_one (k : Nat) (hk : k < 18446744073709551616) : IntKind.u64.wrap (2 ^ min (IntKind.u64.wrap (k : Int)).toNat 64) = ((bN k : Nat) : Int) := by
  rw [wrapN hk, Int.toNat_natCast]
  unfold bN
  split
  · rw [Nat.min_eq_left (by omega)]
    have e2 : (2 : Int) ^ k = ((2 ^ k : Nat) : Int) := by simp
    rw [e2, wrapN (pow64 (k := k) ‹_›)]
  · rw [Nat.min_eq_right (by omega)]
    decide
/-- Is a list of parents right? -/
def rightL (L : List Int) : Bool := decide (L.length ≤ 8) && (List.range L.length).all fun i => decide (-1 ≤ L.getD i 0 ∧ L.getD i 0 < (i : Int))
theorem getD_some {L : List Int} {i : Nat} (h : i < L.length) : L[i]? = some (L.getD i 0) := by
  rw [List.getD_eq_getElem?_getD, List.getElem?_eq_getElem h]
  rfl
theorem some_lt {L : List Int} {i : Nat} {x : Int} (e : L[i]? = some x) : i < L.length ∧ x = L.getD i 0 := by
  have h := (List.getElem?_eq_some_iff.1 e).1
  refine ⟨h, ?_⟩
  rw [getD_some h] at e
  exact (Option.some.inj e).symm
theorem rightL_iff {L : List Int} : rightL L = true ↔ RoleR L := by
  unfold rightL RoleR
  rw [Bool.and_eq_true, decide_eq_true_eq, List.all_eq_true]
  constructor
  · rintro ⟨h1, h2⟩
    refine ⟨h1, fun i x e => ?_⟩
    obtain ⟨hi, rfl⟩ := some_lt e
    exact of_decide_eq_true (h2 i (List.mem_range.2 hi))
  · rintro ⟨h1, h2⟩
    refine ⟨h1, fun i hi => decide_eq_true ?_⟩
    exact h2 i _ (getD_some (List.mem_range.1 hi))
theorem rightL_go {L : List Int} (h : L.length ≤ 8) : rightL L = true ↔ rightGo L L.length := rightL_iff.trans (right_go h)
theorem rightL_long {L : List Int} (h : 8 < L.length) : rightL L = false := by
  unfold rightL
  rw [decide_eq_false (by omega), Bool.false_and]
theorem rightL_bad {L : List Int} {i : Nat} {x : Int} (e : L[i]? = some x) (h : x < -1 ∨ (i : Int) ≤ x) : rightL L = false := by
  rw [Bool.eq_false_iff]
  intro g
  have := (rightL_iff.1 g).2 i x e
  omega
def allV (L : List Int) (r : Nat) : Nat := if rightL L then allN L r else 0
theorem allV_right {L : List Int} (h : rightL L = true) (r : Nat) : allV L r = allN L r := if_pos h
theorem allV_wrong {L : List Int} (h : rightL L = false) (r : Nat) : allV L r = 0 := by
  unfold allV
  rw [h]
  rfl
theorem allV_lt (L : List Int) (r : Nat) : allV L r < 256 := by
  unfold allV
  split
  · have h := rightL_iff.1 ‹_›
    have h1 := allN_lt h r
    have h2 : 2 ^ L.length ≤ 2 ^ 8 := Nat.pow_le_pow_right (by decide) h.1
    have e : (2 : Nat) ^ 8 = 256 := rfl
    omega
  · decide
theorem allV_lt_len (L : List Int) (r m : Nat) (h : (allV L r).testBit m = true) : m < L.length := by
  unfold allV at h
  split at h
  · exact ((allN_bit (rightL_iff.1 ‹_›) r m).1 h).lt (rightL_iff.1 ‹_›)
  · rw [Nat.zero_testBit] at h
    cases h
def hasV (L : List Int) (r : Nat) (k : Int) : Bool := decide (0 ≤ k) && (allV L r).testBit k.toNat
/-- As the code reckons it: from the last role down, each that is in takes its parent in. -/
def AllC (L : List Int) (r i a : Nat) : Prop := ∀ m, a.testBit m = true ↔ (m < L.length ∧ r.testBit m = true) ∨ ∃ j, i ≤ j ∧ InA L (fun k => r.testBit k = true) j ∧ L[j]? = some (m : Int)
theorem allC_start {L : List Int} (h : RoleR L) (r : Nat) : AllC L r L.length (r &&& (2 ^ L.length - 1)) := by
  intro m
  rw [Nat.and_two_pow_sub_one_eq_mod, Nat.testBit_mod_two_pow, Bool.and_eq_true, decide_eq_true_eq]
  constructor
  · exact .inl
  · rintro (h1 | ⟨j, h1, h2, _⟩)
    · exact h1
    · have := h2.lt h
      omega
theorem allC_end {L : List Int} (h : RoleR L) {r a : Nat} (I : AllC L r 0 a) : a = allN L r := by
  refine Nat.eq_of_testBit_eq fun m => ?_
  rw [Bool.eq_iff_iff, allN_bit h, I m]
  constructor
  · rintro (⟨h1, h2⟩ | ⟨j, _, h2, h3⟩)
    · exact .own m h1 h2
    · exact .up j m h2 h3
  · intro g
    cases g with
    | own _ h1 h2 => exact .inl ⟨h1, h2⟩
    | up j _ h2 h3 => exact .inr ⟨j, Nat.zero_le _, h2, h3⟩
/-- Whether role i is in, is told by the time that its turn comes. -/
theorem allC_has {L : List Int} (h : RoleR L) {r i a : Nat} (I : AllC L r (i + 1) a) : a.testBit i = true ↔ InA L (fun k => r.testBit k = true) i := by
  rw [I i]
  constructor
  · rintro (⟨h1, h2⟩ | ⟨j, _, h2, h3⟩)
    · exact .own i h1 h2
    · exact .up j i h2 h3
  · intro g
    cases g with
    | own _ h1 h2 => exact .inl ⟨h1, h2⟩
    | up j _ h2 h3 => exact .inr ⟨j, (h.lt h3).1, h2, h3⟩
theorem allC_skip {L : List Int} (h : RoleR L) {r i a : Nat} (I : AllC L r (i + 1) a) (hs : a.testBit i = false ∨ L[i]? = some (-1)) : AllC L r i a := by
  intro m
  rw [I m]
  constructor
  · rintro (h1 | ⟨j, h1, h2⟩)
    · exact .inl h1
    · exact .inr ⟨j, by omega, h2⟩
  · rintro (h1 | ⟨j, h1, h2, h3⟩)
    · exact .inl h1
    · rcases Nat.lt_or_ge i j with g | g
      · exact .inr ⟨j, g, h2, h3⟩
      · obtain rfl : j = i := by omega
        rcases hs with hs | hs
        · rw [(allC_has h I).2 h2] at hs
          cases hs
        · rw [hs] at h3
          have := Option.some.inj h3
          omega
theorem allC_step {L : List Int} (h : RoleR L) {r i a p : Nat} (I : AllC L r (i + 1) a) (hs : a.testBit i = true) (hp : L[i]? = some (p : Int)) : AllC L r i (a ||| 2 ^ p) := by
  intro m
  rw [bit_or, I m]
  constructor
  · rintro ((h1 | ⟨j, h1, h2⟩) | rfl)
    · exact .inl h1
    · exact .inr ⟨j, by omega, h2⟩
    · exact .inr ⟨i, Nat.le_refl _, (allC_has h I).1 hs, hp⟩
  · rintro (h1 | ⟨j, h1, h2, h3⟩)
    · exact .inl (.inl h1)
    · rcases Nat.lt_or_ge i j with g | g
      · exact .inl (.inr ⟨j, g, h2, h3⟩)
      · obtain rfl : j = i := by omega
        rw [hp] at h3
        have := Option.some.inj h3
        exact .inr (by omega)
theorem allC_lt {L : List Int} (h : RoleR L) {r i a : Nat} (I : AllC L r i a) : a < 256 := by
  have e : (2 : Nat) ^ 8 = 256 := rfl
  rw [← e]
  refine Nat.lt_pow_two_of_testBit _ fun m hm => ?_
  rw [Bool.eq_false_iff]
  intro g
  have h8 := h.1
  rcases (I m).1 g with ⟨h1, _⟩ | ⟨j, _, _, h3⟩
  · omega
  · have := h.lt h3
    omega
/-- A slice of ints that reads as L, below block B. -/
def IL (w : World) (B : Nat) (A : Option Addr) (n c : Nat) (L : List Int) : Prop :=
  L.length = n ∧ n ≤ c ∧ (0 < n → ∃ g o, A = some ⟨g, o, none⟩ ∧ g < B ∧ ∀ j, j < n → w.cell? ⟨g, o + j, none⟩ = some (.int .i64 (L.getD j 0)))
section
variable {w w' : World} {B B' n c : Nat} {A : Option Addr} {L : List Int}
theorem IL.len (h : IL w B A n c L) : L.length = n := h.1
theorem IL.below (h : IL w B A n c L) (hb : Below B w w') : IL w' B A n c L :=
  ⟨h.1, h.2.1, fun hn => by
    obtain ⟨g, o, e, hg, hc⟩ := h.2.2 hn
    exact ⟨g, o, e, hg, fun j hj => (hb.cell (p := ⟨g, o + j, none⟩) hg).trans (hc j hj)⟩⟩
theorem IL.more (h : IL w B A n c L) (hB : B ≤ B') : IL w B' A n c L :=
  ⟨h.1, h.2.1, fun hn => by
    obtain ⟨g, o, e, hg, hc⟩ := h.2.2 hn
    exact ⟨g, o, e, by omega, hc⟩⟩
theorem IL.drew (h : IL w B A n c L) : IL w.drew B A n c L := h
theorem IL.at_ (h : IL w B A n c L) {k : Nat} (hk : k < n) : ∃ g o, A = some ⟨g, o, none⟩ ∧ g < B ∧ w.cell? ⟨g, o + k, none⟩ = some (.int .i64 (L.getD k 0)) ∧ L[k]? = some (L.getD k 0) := by
  obtain ⟨g, o, e, hg, hc⟩ := h.2.2 (by omega)
  exact ⟨g, o, e, hg, hc k hk, getD_some (by rw [h.1]; exact hk)⟩
/-- The first k of them. -/
theorem IL.head (h : IL w B A n c L) {k : Nat} (hk : k ≤ n) : IL w B A k c (L.take k) := by
  refine ⟨by rw [List.length_take, h.1]; omega, by have := h.2.1; omega, fun h0 => ?_⟩
  obtain ⟨g, o, rfl, hg, hc⟩ := h.2.2 (by omega)
  refine ⟨g, o, rfl, hg, fun j hj => ?_⟩
  rw [hc j (by omega), List.getD_eq_getElem?_getD, List.getD_eq_getElem?_getD, List.getElem?_take, if_pos hj]
end
end Go.Proofs.Ytakofbkbbmpfeaa

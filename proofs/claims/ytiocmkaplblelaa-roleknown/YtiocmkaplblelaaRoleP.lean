/- Chapter 9, plainly: roles that have others. -/
import Derived.WalkKit
namespace Go.Proofs.Ytiocmkaplblelaa
/-- At most eight, each -1 or below its own number. -/
def RightR (L : List Int) : Prop := L.length ≤ 8 ∧ ∀ (i : Nat) (x : Int), L[i]? = some x → -1 ≤ x ∧ x < (i : Int)
/-- Those given, of those there are, with their parents, and theirs. -/
inductive InA (L : List Int) (r : Nat → Prop) : Nat → Prop
  | own (i : Nat) : i < L.length → r i → InA L r i
  | up (j i : Nat) : InA L r j → L[j]? = some (i : Int) → InA L r i
theorem RightR.lt {L : List Int} (h : RightR L) {i j : Nat} (e : L[j]? = some (i : Int)) : i < j ∧ j < L.length := by
  have h1 := (h.2 j _ e).2
  refine ⟨by omega, ?_⟩
  rcases Nat.lt_or_ge j L.length with g | g
  · exact g
  · rw [List.getElem?_eq_none g] at e
    cases e
theorem InA.lt {L : List Int} {r : Nat → Prop} (h : RightR L) {m : Nat} (a : InA L r m) : m < L.length := by
  induction a with
  | own i hi _ => exact hi
  | up j i _ e ih => have := h.lt e; omega
theorem InA.mono {L : List Int} {r s : Nat → Prop} (hrs : ∀ i, i < L.length → r i → s i) {m : Nat} (a : InA L r m) : InA L s m := by
  induction a with
  | own i hi hr => exact .own i hi (hrs i hi hr)
  | up j i _ e ih => exact .up j i ih e
theorem InA.or {L : List Int} {r s : Nat → Prop} {m : Nat} : InA L (fun i => r i ∨ s i) m ↔ InA L r m ∨ InA L s m := by
  constructor
  · intro a
    induction a with
    | own i hi hr =>
      rcases hr with hr | hr
      · exact .inl (.own i hi hr)
      · exact .inr (.own i hi hr)
    | up j i _ e ih =>
      rcases ih with ih | ih
      · exact .inl (.up j i ih e)
      · exact .inr (.up j i ih e)
  · rintro (a | a)
    · exact a.mono fun _ _ h => .inl h
    · exact a.mono fun _ _ h => .inr h
theorem InA.idem {L : List Int} {r : Nat → Prop} (h : RightR L) {m : Nat} : InA L (InA L r) m ↔ InA L r m := by
  constructor
  · intro a
    induction a with
    | own i _ hr => exact hr
    | up j i _ e ih => exact .up j i ih e
  · intro a
    exact .own m (a.lt h) a
/-- The document's reckoning: from the last role down to the first. -/
def allGo (L : List Int) (r : Nat) : Nat → Nat → Nat
  | 0, out => out
  | i + 1, out => allGo L r i (if r.testBit i || out.testBit i then (if 0 ≤ L.getD i (-1) then (out ||| 2 ^ i) ||| 2 ^ (L.getD i (-1)).toNat else out ||| 2 ^ i) else out)
def allN (L : List Int) (r : Nat) : Nat := allGo L r L.length 0
def AllI (L : List Int) (r i out : Nat) : Prop := ∀ m, out.testBit m = true ↔ (i ≤ m ∧ InA L (fun k => r.testBit k = true) m) ∨ ∃ j, i ≤ j ∧ InA L (fun k => r.testBit k = true) j ∧ L[j]? = some (m : Int)
theorem allI_start {L : List Int} (h : RightR L) (r : Nat) : AllI L r L.length 0 := by
  intro m
  rw [Nat.zero_testBit]
  constructor
  · intro e
    cases e
  · rintro (⟨h1, h2⟩ | ⟨j, h1, h2, _⟩)
    · have := h2.lt h
      omega
    · have := h2.lt h
      omega
theorem allI_has {L : List Int} (h : RightR L) {r i out : Nat} (hi : i < L.length) (I : AllI L r (i + 1) out) : (r.testBit i || out.testBit i) = true ↔ InA L (fun k => r.testBit k = true) i := by
  rw [Bool.or_eq_true]
  constructor
  · rintro (e | e)
    · exact .own i hi e
    · rcases (I i).1 e with ⟨h1, _⟩ | ⟨j, _, h2, h3⟩
      · omega
      · exact .up j i h2 h3
  · intro a
    cases a with
    | own _ _ e => exact .inl e
    | up j _ a e =>
      refine .inr ((I i).2 (.inr ⟨j, ?_, a, e⟩))
      have := h.lt e
      omega
theorem bit_or {a i m : Nat} : (a ||| 2 ^ i).testBit m = true ↔ a.testBit m = true ∨ i = m := by
  rw [Nat.testBit_or, Nat.testBit_two_pow, Bool.or_eq_true, decide_eq_true_eq]
theorem allI_step {L : List Int} (h : RightR L) {r i out : Nat} (hi : i < L.length) (I : AllI L r (i + 1) out) :
    AllI L r i (if r.testBit i || out.testBit i then (if 0 ≤ L.getD i (-1) then (out ||| 2 ^ i) ||| 2 ^ (L.getD i (-1)).toNat else out ||| 2 ^ i) else out) := by
  have hg : L[i]? = some (L.getD i (-1)) := by
    rw [List.getD_eq_getElem?_getD, List.getElem?_eq_getElem hi]
    rfl
  generalize L.getD i (-1) = p at hg ⊢
  have hH := allI_has h hi I
  have hsame : ∀ m, ((i ≤ m ∧ InA L (fun k => r.testBit k = true) m) ∨ ∃ j, i ≤ j ∧ InA L (fun k => r.testBit k = true) j ∧ L[j]? = some (m : Int)) ↔
      (out.testBit m = true ∨ (InA L (fun k => r.testBit k = true) i ∧ (m = i ∨ p = (m : Int)))) := by
    intro m
    rw [I m]
    constructor
    · rintro (⟨h1, h2⟩ | ⟨j, h1, h2, h3⟩)
      · rcases Nat.lt_or_ge i m with g | g
        · exact .inl (.inl ⟨g, h2⟩)
        · obtain rfl : m = i := by omega
          exact .inr ⟨h2, .inl rfl⟩
      · rcases Nat.lt_or_ge i j with g | g
        · exact .inl (.inr ⟨j, g, h2, h3⟩)
        · obtain rfl : j = i := by omega
          refine .inr ⟨h2, .inr ?_⟩
          rw [hg] at h3
          exact Option.some.inj h3
    · rintro ((⟨h1, h2⟩ | ⟨j, h1, h2, h3⟩) | ⟨h1, rfl | rfl⟩)
      · exact .inl ⟨by omega, h2⟩
      · exact .inr ⟨j, by omega, h2, h3⟩
      · exact .inl ⟨Nat.le_refl _, h1⟩
      · exact .inr ⟨i, Nat.le_refl _, h1, hg⟩
  intro m
  rw [hsame m]
  by_cases hb : (r.testBit i || out.testBit i) = true
  · rw [if_pos hb]
    have hA := hH.1 hb
    by_cases hp : 0 ≤ p
    · rw [if_pos hp, bit_or, bit_or]
      constructor
      · rintro ((e | e) | e)
        · exact .inl e
        · exact .inr ⟨hA, .inl e.symm⟩
        · exact .inr ⟨hA, .inr (by omega)⟩
      · rintro (e | ⟨_, e | e⟩)
        · exact .inl (.inl e)
        · exact .inl (.inr e.symm)
        · exact .inr (by omega)
    · rw [if_neg hp, bit_or]
      constructor
      · rintro (e | e)
        · exact .inl e
        · exact .inr ⟨hA, .inl e.symm⟩
      · rintro (e | ⟨_, e | e⟩)
        · exact .inl e
        · exact .inr e.symm
        · omega
  · rw [if_neg hb]
    constructor
    · exact .inl
    · rintro (e | ⟨a, _⟩)
      · exact e
      · exact absurd (hH.2 a) hb
theorem allGo_bits {L : List Int} (h : RightR L) (r : Nat) : ∀ (i out : Nat), i ≤ L.length → AllI L r i out → AllI L r 0 (allGo L r i out)
  | 0, _, _, I => I
  | i + 1, _, hi, I => allGo_bits h r i _ (by omega) (allI_step h (by omega) I)
/-- Bit m of All: is m among those given and their parents? -/
theorem allN_bit {L : List Int} (h : RightR L) (r m : Nat) : (allN L r).testBit m = true ↔ InA L (fun k => r.testBit k = true) m := by
  have I := allGo_bits h r L.length 0 (Nat.le_refl _) (allI_start h r) m
  unfold allN
  rw [I]
  constructor
  · rintro (⟨_, a⟩ | ⟨j, _, a, e⟩)
    · exact a
    · exact .up j m a e
  · intro a
    exact .inl ⟨Nat.zero_le _, a⟩
theorem allN_lt {L : List Int} (h : RightR L) (r : Nat) : allN L r < 2 ^ L.length := by
  refine Nat.lt_pow_two_of_testBit _ fun i hi => ?_
  rw [Bool.eq_false_iff]
  intro e
  have := ((allN_bit h r i).1 e).lt h
  omega
/-- What is told of All: only those there are; those given, of those there are; its own All; of two, what both have; a parent with each. -/
theorem allN_own {L : List Int} (h : RightR L) (r : Nat) {m : Nat} (hm : m < L.length) (e : r.testBit m = true) : (allN L r).testBit m = true := (allN_bit h r m).2 (.own m hm e)
theorem allN_idem {L : List Int} (h : RightR L) (r : Nat) : allN L (allN L r) = allN L r := by
  refine Nat.eq_of_testBit_eq fun m => ?_
  rw [Bool.eq_iff_iff, allN_bit h, allN_bit h]
  have e : (fun k => (allN L r).testBit k = true) = InA L (fun k => r.testBit k = true) := by
    funext k
    exact propext (allN_bit h r k)
  rw [e, InA.idem h]
theorem allN_or {L : List Int} (h : RightR L) (r s : Nat) : allN L (r ||| s) = allN L r ||| allN L s := by
  refine Nat.eq_of_testBit_eq fun m => ?_
  rw [Bool.eq_iff_iff, allN_bit h, Nat.testBit_or, Bool.or_eq_true, allN_bit h, allN_bit h, ← InA.or]
  have e : (fun k => (r ||| s).testBit k = true) = fun k => r.testBit k = true ∨ s.testBit k = true := by
    funext k
    rw [Nat.testBit_or, Bool.or_eq_true]
  rw [e]
theorem allN_up {L : List Int} (h : RightR L) (r : Nat) {j i : Nat} (a : (allN L r).testBit j = true) (e : L[j]? = some (i : Int)) : (allN L r).testBit i = true := (allN_bit h r i).2 (.up j i ((allN_bit h r j).1 a) e)
/-- A chain of roles, each the next one's parent; roles alone. -/
def chainL (n : Nat) : List Int := (List.range n).map fun (i : Nat) => (i : Int) - 1
def aloneL (n : Nat) : List Int := List.replicate n (-1)
theorem chain_all : ∀ n, n < 9 → ∀ k, k < n → allN (chainL n) (2 ^ k) = 2 ^ (k + 1) - 1 ∧ allN (aloneL n) (2 ^ k) = 2 ^ k := by decide +kernel
theorem alone_right {n : Nat} (h : n ≤ 8) : RightR (aloneL n) := by
  refine ⟨by unfold aloneL; rw [List.length_replicate]; exact h, fun i x e => ?_⟩
  unfold aloneL at e
  rw [List.getElem?_replicate] at e
  split at e
  · obtain rfl := Option.some.inj e
    omega
  · cases e
theorem chain_right {n : Nat} (h : n ≤ 8) : RightR (chainL n) := by
  refine ⟨by unfold chainL; rw [List.length_map, List.length_range]; exact h, fun i x e => ?_⟩
  unfold chainL at e
  rw [List.getElem?_map] at e
  rcases Nat.lt_or_ge i n with g | g
  · rw [List.getElem?_range g] at e
    obtain rfl := Option.some.inj e
    show -1 ≤ (i : Int) - 1 ∧ (i : Int) - 1 < (i : Int)
    omega
  · rw [List.getElem?_eq_none (by rw [List.length_range]; exact g)] at e
    cases e
/-- Are they right? As a loop tells it: from the first on. -/
def rightGo (L : List Int) (i : Nat) : Prop := ∀ (j : Nat) (x : Int), j < i → L[j]? = some x → -1 ≤ x ∧ x < (j : Int)
theorem rightGo_zero (L : List Int) : rightGo L 0 := fun j _ h _ => by omega
theorem rightGo_succ {L : List Int} {i : Nat} {x : Int} (e : L[i]? = some x) : rightGo L (i + 1) ↔ rightGo L i ∧ -1 ≤ x ∧ x < (i : Int) := by
  constructor
  · intro h
    exact ⟨fun j y hj ey => h j y (by omega) ey, h i x (by omega) e⟩
  · rintro ⟨h1, h2⟩ j y hj ey
    rcases Nat.lt_or_ge j i with g | g
    · exact h1 j y g ey
    · obtain rfl : j = i := by omega
      rw [e] at ey
      obtain rfl := Option.some.inj ey
      exact h2
theorem right_go {L : List Int} (h : L.length ≤ 8) : RightR L ↔ rightGo L L.length := by
  constructor
  · intro g j x _ e
    exact g.2 j x e
  · intro g
    refine ⟨h, fun i x e => g i x ?_ e⟩
    rcases Nat.lt_or_ge i L.length with a | a
    · exact a
    · rw [List.getElem?_eq_none a] at e
      cases e
end Go.Proofs.Ytiocmkaplblelaa

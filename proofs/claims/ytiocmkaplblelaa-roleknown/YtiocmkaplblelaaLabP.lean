/- What label is about, plainly: the bits of a Set, its members, its text, what a text is read as. -/
import Derived.Test.YtiocmkaplblelaaPackP
import Derived.Laws.BitsAllLaws
namespace Go.Proofs.Ytiocmkaplblelaa

/-- The members below k, rising. -/
def memK (n k : Nat) : List Nat := (List.range k).filter fun i => n.testBit i
def memL (n : Nat) : List Nat := memK n 8
theorem memK_succ (n k : Nat) : memK n (k + 1) = memK n k ++ (if n.testBit k then [k] else []) := by
  unfold memK
  rw [List.range_succ, List.filter_append]
  congr 1
  cases h : n.testBit k <;> simp [h]
theorem memK_yes {n k : Nat} (h : n.testBit k = true) : memK n (k + 1) = memK n k ++ [k] := by rw [memK_succ, if_pos h]
theorem memK_no {n k : Nat} (h : n.testBit k = false) : memK n (k + 1) = memK n k := by rw [memK_succ, h]; simp
theorem memK_le (n : Nat) : ∀ k, (memK n k).length ≤ k
  | 0 => by simp [memK]
  | k + 1 => by
    have := memK_le n k
    rw [memK_succ, List.length_append]
    split <;> simp <;> omega
theorem memL_le (n : Nat) : (memL n).length ≤ 8 := memK_le n 8
theorem memK_mem {n k i : Nat} : i ∈ memK n k ↔ i < k ∧ n.testBit i = true := by simp [memK]
theorem memL_mem {n i : Nat} : i ∈ memL n ↔ i < 8 ∧ n.testBit i = true := memK_mem
theorem memL_lt {n i : Nat} (h : i ∈ memL n) : i < 8 := (memL_mem.1 h).1

/-- Of entities and a Level that may be. -/
def rightB (n : Nat) (v : Int) : Bool := (decide (n < 256) && decide (0 ≤ v)) && decide (v ≤ 3)
theorem rightB_iff {n : Nat} {v : Int} : rightB n v = true ↔ n < 256 ∧ 0 ≤ v ∧ v ≤ 3 := by simp [rightB, and_assoc]
theorem rightB_not {n : Nat} {v : Int} (h : ¬ (n < 256 ∧ 0 ≤ v ∧ v ≤ 3)) : rightB n v = false := by
  cases e : rightB n v
  · rfl
  · exact absurd (rightB_iff.1 e) h
def belowB (a : Nat) (v : Int) (b : Nat) (u : Int) : Bool := decide (a &&& b = a) && decide (v ≤ u)
theorem belowB_iff {a b : Nat} {v u : Int} : belowB a v b u = true ↔ a &&& b = a ∧ v ≤ u := by simp [belowB]
def ofSet (e : Int) : Nat := if 0 ≤ e ∧ e < 8 then 2 ^ e.toNat else 0
theorem ofSet_lt (e : Int) : ofSet e < 256 := by
  unfold ofSet
  split
  · have : ∀ k, k < 8 → 2 ^ k < 256 := by decide +kernel
    exact this _ (by omega)
  · decide
theorem ofSet_nat {k : Nat} (h : k < 8) : ofSet (k : Int) = 2 ^ k := by
  unfold ofSet
  rw [if_pos (by omega)]
  rfl

/-- The digit of k. -/
def dg (k : Nat) : UInt8 := UInt8.ofNat (48 + k)
def printL (n : Nat) (v : Int) : List UInt8 := if rightB n v then dg v.toNat :: 58 :: (memL n).map dg else []
theorem printL_yes {n : Nat} {v : Int} (h : rightB n v = true) : printL n v = dg v.toNat :: 58 :: (memL n).map dg := by rw [printL, if_pos h]
theorem printL_no {n : Nat} {v : Int} (h : rightB n v = false) : printL n v = [] := by rw [printL, h]; rfl

/-- Members behind last, added to n. -/
def rdL : Nat → Int → List UInt8 → Option Nat
  | n, _, [] => some n
  | n, t, c :: l => if (c.toNat : Int) - 48 ≤ t ∨ 8 ≤ (c.toNat : Int) - 48 then none else rdL (n ||| 2 ^ (c.toNat - 48)) ((c.toNat : Int) - 48) l
/-- A text read: the Set, the Level, the Errno. -/
def readV : List UInt8 → Nat × Int × Int
  | a :: b :: l => if b.toNat = 58 then
      match rdL 0 (-1) l with
      | some n => if rightB n ((a.toNat : Int) - 48) then (n, (a.toNat : Int) - 48, 0) else (0, 0, 2)
      | none => (0, 0, 2)
    else (0, 0, 2)
  | _ => (0, 0, 2)
/-- The document's own reading: what digits there are. -/
def lenL : Nat → List UInt8 → Nat
  | n, [] => n
  | n, c :: l => lenL (if 48 ≤ c.toNat ∧ c.toNat < 56 then n ||| 2 ^ (c.toNat - 48) else n) l
def levL : List UInt8 → Int
  | [] => 0
  | a :: _ => (a.toNat : Int) - 48
def rreadV (s : List UInt8) : Nat × Int × Int := if s.length < 2 ∨ printL (lenL 0 (s.drop 2)) (levL s) ≠ s then (0, 0, 2) else (lenL 0 (s.drop 2), levL s, 0)

theorem back_all : ∀ n, n < 256 → ∀ v, v < 4 → readV (printL n ((v : Nat) : Int)) = (n, ((v : Nat) : Int), 0) ∧ lenL 0 ((printL n ((v : Nat) : Int)).drop 2) = n ∧ levL (printL n ((v : Nat) : Int)) = ((v : Nat) : Int) := by decide +kernel
theorem or_all : ∀ n, n < 256 → ∀ e, e < 8 → n < 2 ^ e → memL (n ||| 2 ^ e) = memL n ++ [e] ∧ n ||| 2 ^ e < 2 ^ (e + 1) := by decide +kernel
theorem pow_all : ∀ e, e < 9 → 2 ^ e ≤ 256 := by decide +kernel
theorem back_r {n : Nat} {v : Int} (h : rightB n v = true) : readV (printL n v) = (n, v, 0) ∧ lenL 0 ((printL n v).drop 2) = n ∧ levL (printL n v) = v := by
  obtain ⟨h1, h2, h3⟩ := rightB_iff.1 h
  have := back_all n h1 v.toNat (by omega)
  rwa [Int.toNat_of_nonneg h2] at this
theorem dg_of {c : UInt8} (h : 48 ≤ c.toNat) (h2 : c.toNat < 56) : dg (c.toNat - 48) = c := by
  unfold dg
  rw [show 48 + (c.toNat - 48) = c.toNat by omega]
  exact UInt8.ofNat_toNat
theorem rdL_some : ∀ (l : List UInt8) (n m k : Nat), k ≤ 8 → n < 2 ^ k → rdL n ((k : Int) - 1) l = some m → m < 256 ∧ (memL m).map dg = (memL n).map dg ++ l
  | [], n, m, k, hk, hn, h => by
    injection h with h
    subst h
    have := pow_all k (by omega)
    exact ⟨by omega, by simp⟩
  | c :: l, n, m, k, hk, hn, h => by
    rw [rdL] at h
    split at h
    · cases h
    · rename_i hc
      have h1 : 48 ≤ c.toNat := by omega
      have h2 : c.toNat < 56 := by omega
      obtain ⟨e, he⟩ : ∃ e, c.toNat - 48 = e := ⟨_, rfl⟩
      have hke : k ≤ e := by omega
      have hp : 2 ^ k ≤ 2 ^ e := Nat.pow_le_pow_right (by decide) hke
      have hp8 := pow_all e (by omega)
      obtain ⟨o1, o2⟩ := or_all n (by omega) e (by omega) (by omega)
      rw [he, show ((c.toNat : Int) - 48) = ((e + 1 : Nat) : Int) - 1 by omega] at h
      obtain ⟨i1, i2⟩ := rdL_some l _ m (e + 1) (by omega) o2 h
      refine ⟨i1, ?_⟩
      rw [i2, o1, List.map_append, List.append_assoc, ← he]
      simp [dg_of h1 h2]
theorem readV_ok {s : List UInt8} {n : Nat} {v x : Int} (h : readV s = (n, v, x)) : (x = 0 ∧ rightB n v = true ∧ printL n v = s) ∨ (n = 0 ∧ v = 0 ∧ x = 2) := by
  have no : ((0, 0, 2) : Nat × Int × Int) = (n, v, x) → (n = 0 ∧ v = 0 ∧ x = 2) := by
    intro e
    injection e with e1 e2
    injection e2 with e2 e3
    exact ⟨e1.symm, e2.symm, e3.symm⟩
  match s, h with
  | [], h => exact .inr (no h)
  | [_], h => exact .inr (no h)
  | a :: b :: l, h =>
    rw [readV] at h
    split at h
    · rename_i hb
      split at h
      · rename_i m hm
        split at h
        · rename_i hr
          injection h with e1 e2
          injection e2 with e2 e3
          subst e1 e2 e3
          obtain ⟨_, i2⟩ := rdL_some l 0 m 0 (by omega) (by decide) hm
          refine .inl ⟨rfl, hr, ?_⟩
          obtain ⟨_, r1, r2⟩ := rightB_iff.1 hr
          rw [printL_yes hr, i2]
          have hb' : b = 58 := UInt8.toNat_inj.1 (by rw [hb]; rfl)
          rw [hb', show ((a.toNat : Int) - 48).toNat = a.toNat - 48 by omega, dg_of (by omega) (by omega)]
          rfl
        · exact .inr (no h)
      · exact .inr (no h)
    · exact .inr (no h)
theorem rread_eq (s : List UInt8) : rreadV s = readV s := by
  obtain ⟨n, v, x, h⟩ : ∃ n v x, readV s = (n, v, x) := ⟨_, _, _, rfl⟩
  rw [h]
  unfold rreadV
  rcases readV_ok h with ⟨rfl, hr, hp⟩ | ⟨rfl, rfl, rfl⟩
  · obtain ⟨_, b2, b3⟩ := back_r hr
    rw [hp] at b2 b3
    rw [b2, b3, hp]
    have : 2 ≤ s.length := by rw [← hp, printL_yes hr]; simp
    rw [if_neg (by simp; omega)]
  · by_cases hc : s.length < 2 ∨ printL (lenL 0 (s.drop 2)) (levL s) ≠ s
    · rw [if_pos hc]
    · have hl : 2 ≤ s.length := by
        rcases Nat.lt_or_ge s.length 2 with g | g
        · exact absurd (.inl g) hc
        · exact g
      have hp : printL (lenL 0 (s.drop 2)) (levL s) = s := Classical.byContradiction fun g => hc (.inr g)
      have hr : rightB (lenL 0 (s.drop 2)) (levL s) = true := by
        cases e : rightB (lenL 0 (s.drop 2)) (levL s)
        · rw [printL_no e] at hp; rw [← hp] at hl; simp at hl
        · rfl
      obtain ⟨b1, _, _⟩ := back_r hr
      rw [hp, h] at b1
      injection b1 with _ b1
      injection b1 with _ b1
      cases b1

/-- Sets. -/
theorem sub_iff {a b : Nat} : a &&& b = a ↔ ∀ i, a.testBit i = true → b.testBit i = true := by
  constructor
  · intro h i hi
    rw [← h, Nat.testBit_and] at hi
    simp at hi
    exact hi.2
  · intro h
    refine Nat.eq_of_testBit_eq fun i => ?_
    rw [Nat.testBit_and]
    cases e : a.testBit i
    · rfl
    · rw [h i e]; rfl
theorem sub_256 {a b : Nat} (ha : a < 256) : a &&& b = a ↔ ∀ k ∈ memL a, k ∈ memL b := by
  rw [sub_iff]
  constructor
  · intro h k hk
    obtain ⟨h1, h2⟩ := memL_mem.1 hk
    exact memL_mem.2 ⟨h1, h k h2⟩
  · intro h i hi
    have : i < 8 := by
      rcases Nat.lt_or_ge i 8 with c | c
      · exact c
      · have : a < 2 ^ i := Nat.lt_of_lt_of_le ha (Nat.pow_le_pow_right (n := 2) (by decide) c)
        rw [Nat.testBit_lt_two_pow this] at hi
        cases hi
    exact (memL_mem.1 (h i (memL_mem.2 ⟨this, hi⟩))).2
theorem len_two (a b : Nat) : ∀ k, (memK (a &&& b) k).length + (memK (a ||| b) k).length = (memK a k).length + (memK b k).length
  | 0 => by simp [memK]
  | k + 1 => by
    have := len_two a b k
    simp only [memK_succ, List.length_append, Nat.testBit_and, Nat.testBit_or]
    cases a.testBit k <;> cases b.testBit k <;> simp <;> omega
theorem andNot_zero {a b : Nat} (ha : a < 18446744073709551616) (hb : b < 18446744073709551616) : (a &&& (18446744073709551615 - b)) = 0 ↔ a &&& b = a := by
  have e : 18446744073709551615 - b = 2 ^ 64 - (b + 1) := by rw [show (2 : Nat) ^ 64 = 18446744073709551616 from rfl]; omega
  rw [sub_iff, e]
  have hb' : b < 2 ^ 64 := hb
  constructor
  · intro h i hi
    have h2 : (a &&& (2 ^ 64 - (b + 1))).testBit i = false := by rw [h]; simp
    rw [Nat.testBit_and, hi, Nat.testBit_two_pow_sub_succ hb'] at h2
    have : i < 64 := by
      rcases Nat.lt_or_ge i 64 with c | c
      · exact c
      · have : a < 2 ^ i := Nat.lt_of_lt_of_le ha (Nat.pow_le_pow_right (n := 2) (by decide) c)
        rw [Nat.testBit_lt_two_pow this] at hi
        cases hi
    simpa [this] using h2
  · intro h
    refine Nat.eq_of_testBit_eq fun i => ?_
    rw [Nat.testBit_and, Nat.testBit_two_pow_sub_succ hb', Nat.zero_testBit]
    cases e : a.testBit i
    · rfl
    · rw [h i e]; simp
theorem bit_and (n k : Nat) : n &&& 2 ^ k = 0 ↔ n.testBit k = false := by
  constructor
  · intro h
    have h2 : (n &&& 2 ^ k).testBit k = false := by rw [h]; simp
    rw [Nat.testBit_and, Nat.testBit_two_pow_self] at h2
    simpa using h2
  · intro h
    refine Nat.eq_of_testBit_eq fun i => ?_
    rw [Nat.testBit_and, Nat.testBit_two_pow, Nat.zero_testBit]
    by_cases e : k = i
    · subst e; rw [h]; rfl
    · simp [e]
theorem or_lt {a b : Nat} (ha : a < 18446744073709551616) (hb : b < 18446744073709551616) : a ||| b < 18446744073709551616 := Nat.or_lt_two_pow (n := 64) ha hb
theorem and_lt' {a : Nat} (b : Nat) (ha : a < 18446744073709551616) : a &&& b < 18446744073709551616 := Nat.lt_of_le_of_lt Nat.and_le_left ha
theorem shr_bit (n k : Nat) : n / 2 ^ k % 2 = 1 ↔ n.testBit k = true := by
  rw [Nat.testBit_eq_decide_div_mod_eq]
  simp
end Go.Proofs.Ytiocmkaplblelaa

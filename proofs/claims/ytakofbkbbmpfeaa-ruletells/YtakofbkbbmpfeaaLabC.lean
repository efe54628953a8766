/- What label is about, plainly: the bits of a Set, its members, its text, what a text is read as. -/
/- Package label: bit, number, digit, Join, Meet, Below, Right, Of. -/
/- Package label: Members; the same of pyxref4, with has. -/
/- Package label: Print; PrintLabel of pyxref4. -/
import Derived.Test.YtakofbkbbmpfeaaBytesA
import Derived.Laws.BitsAllLaws
import Derived.Laws.Bits64
import Derived.Test.YtakofbkbbmpfeaaDetB
import Derived.Test.YtakofbkbbmpfeaaHoldB
import Derived.OwnWalk
namespace Go.Proofs.Ytakofbkbbmpfeaa

/-- The members below k, rising. -/
def memK (n k : Nat) : List Nat := (List.range k).filter fun i => n.testBit i
def memL (n : Nat) : List Nat := memK n 8
theorem memK_succ (n k : Nat) : memK n (k + 1) = memK n k ++ (if n.testBit k then [k] else []) := by
  unfold memK
  rw [List.range_succ, List.filter_append]
  congr 1
  cases h : n.testBit k <;> simp [h]
theorem memK_yes {n k : Nat} (h : n.testBit k = true) : memK n (k + 1) = memK n k ++ [k] := by rw [memK_succ, if_pos h]
theorem memK_no {n k : Nat} (h : n.testBit k = false) : memK n (k + 1) = memK n k := by rw [memK_succ, h]; simp
theorem memK_le (n : Nat) : ∀ k, (memK n k).length ≤ k
  | 0 => by simp [memK]
  | k + 1 => by
    have := memK_le n k
    rw [memK_succ, List.length_append]
    split <;> simp <;> omega
theorem memL_le (n : Nat) : (memL n).length ≤ 8 := memK_le n 8
theorem memK_mem {n k i : Nat} : i ∈ memK n k ↔ i < k ∧ n.testBit i = true := by simp [memK]
theorem memL_mem {n i : Nat} : i ∈ memL n ↔ i < 8 ∧ n.testBit i = true := memK_mem
theorem memL_lt {n i : Nat} (h : i ∈ memL n) : i < 8 := (memL_mem.1 h).1

/-- Of entities and a Level that may be. -/
def rightB (n : Nat) (v : Int) : Bool := (decide (n < 256) && decide (0 ≤ v)) && decide (v ≤ 3)
theorem rightB_iff {n : Nat} {v : Int} : rightB n v = true ↔ n < 256 ∧ 0 ≤ v ∧ v ≤ 3 := by simp [rightB, and_assoc]
theorem rightB_not {n : Nat} {v : Int} (h : ¬ (n < 256 ∧ 0 ≤ v ∧ v ≤ 3)) : rightB n v = false := by
  cases e : rightB n v
  · rfl
  · exact absurd (rightB_iff.1 e) h
def belowB (a : Nat) (v : Int) (b : Nat) (u : Int) : Bool := decide (a &&& b = a) && decide (v ≤ u)
theorem belowB_iff {a b : Nat} {v u : Int} : belowB a v b u = true ↔ a &&& b = a ∧ v ≤ u := by simp [belowB]
def ofSet (e : Int) : Nat := if 0 ≤ e ∧ e < 8 then 2 ^ e.toNat else 0
theorem ofSet_lt (e : Int) : ofSet e < 256 := by
  unfold ofSet
  split
  · have : ∀ k, k < 8 → 2 ^ k < 256 := by decide +kernel
    exact this _ (by omega)
  · decide
theorem ofSet_nat {k : Nat} (h : k < 8) : ofSet (k : Int) = 2 ^ k := by
  unfold ofSet
  rw [if_pos (by omega)]
  rfl

/-- The digit of k. -/
def ldg (k : Nat) : UInt8 := UInt8.ofNat (48 + k)
def printL (n : Nat) (v : Int) : List UInt8 := if rightB n v then ldg v.toNat :: 58 :: (memL n).map ldg else []
theorem printL_yes {n : Nat} {v : Int} (h : rightB n v = true) : printL n v = ldg v.toNat :: 58 :: (memL n).map ldg := by rw [printL, if_pos h]
theorem printL_no {n : Nat} {v : Int} (h : rightB n v = false) : printL n v = [] := by rw [printL, h]; rfl

/-- Members behind last, added to n. -/
def rdL : Nat → Int → List UInt8 → Option Nat
  | n, _, [] => some n
  | n, t, c :: l => if (c.toNat : Int) - 48 ≤ t ∨ 8 ≤ (c.toNat : Int) - 48 then none else rdL (n ||| 2 ^ (c.toNat - 48)) ((c.toNat : Int) - 48) l
/-- A text read: the Set, the Level, the Errno. -/
def readV : List UInt8 → Nat × Int × Int
  | a :: b :: l => if b.toNat = 58 then
      match rdL 0 (-1) l with
      | some n => if rightB n ((a.toNat : Int) - 48) then (n, (a.toNat : Int) - 48, 0) else (0, 0, 2)
      | none => (0, 0, 2)
    else (0, 0, 2)
  | _ => (0, 0, 2)
/-- The document's own reading: what digits there are. -/
def lenL : Nat → List UInt8 → Nat
  | n, [] => n
  | n, c :: l => lenL (if 48 ≤ c.toNat ∧ c.toNat < 56 then n ||| 2 ^ (c.toNat - 48) else n) l
def levL : List UInt8 → Int
  | [] => 0
  | a :: _ => (a.toNat : Int) - 48
def rreadV (s : List UInt8) : Nat × Int × Int := if s.length < 2 ∨ printL (lenL 0 (s.drop 2)) (levL s) ≠ s then (0, 0, 2) else (lenL 0 (s.drop 2), levL s, 0)

theorem back_all : ∀ n, n < 256 → ∀ v, v < 4 → readV (printL n ((v : Nat) : Int)) = (n, ((v : Nat) : Int), 0) ∧ lenL 0 ((printL n ((v : Nat) : Int)).drop 2) = n ∧ levL (printL n ((v : Nat) : Int)) = ((v : Nat) : Int) := by decide +kernel
theorem or_all : ∀ n, n < 256 → ∀ e, e < 8 → n < 2 ^ e → memL (n ||| 2 ^ e) = memL n ++ [e] ∧ n ||| 2 ^ e < 2 ^ (e + 1) := by decide +kernel
theorem pow_all : ∀ e, e < 9 → 2 ^ e ≤ 256 := by decide +kernel
theorem back_r {n : Nat} {v : Int} (h : rightB n v = true) : readV (printL n v) = (n, v, 0) ∧ lenL 0 ((printL n v).drop 2) = n ∧ levL (printL n v) = v := by
  obtain ⟨h1, h2, h3⟩ := rightB_iff.1 h
  have := back_all n h1 v.toNat (by omega)
  rwa [Int.toNat_of_nonneg h2] at this
theorem dg_of {c : UInt8} (h : 48 ≤ c.toNat) (h2 : c.toNat < 56) : ldg (c.toNat - 48) = c := by
  unfold ldg
  rw [show 48 + (c.toNat - 48) = c.toNat by omega]
  exact UInt8.ofNat_toNat
theorem rdL_some : ∀ (l : List UInt8) (n m k : Nat), k ≤ 8 → n < 2 ^ k → rdL n ((k : Int) - 1) l = some m → m < 256 ∧ (memL m).map ldg = (memL n).map ldg ++ l
  | [], n, m, k, hk, hn, h => by
    injection h with h
    subst h
    have := pow_all k (by omega)
    exact ⟨by omega, by simp⟩
  | c :: l, n, m, k, hk, hn, h => by
    rw [rdL] at h
    split at h
    · cases h
    · rename_i hc
      have h1 : 48 ≤ c.toNat := by omega
      have h2 : c.toNat < 56 := by omega
      obtain ⟨e, he⟩ : ∃ e, c.toNat - 48 = e := ⟨_, rfl⟩
      have hke : k ≤ e := by omega
      have hp : 2 ^ k ≤ 2 ^ e := Nat.pow_le_pow_right (by decide) hke
      have hp8 := pow_all e (by omega)
      obtain ⟨o1, o2⟩ := or_all n (by omega) e (by omega) (by omega)
      rw [he, show ((c.toNat : Int) - 48) = ((e + 1 : Nat) : Int) - 1 by omega] at h
      obtain ⟨i1, i2⟩ := rdL_some l _ m (e + 1) (by omega) o2 h
      refine ⟨i1, ?_⟩
      rw [i2, o1, List.map_append, List.append_assoc, ← he]
      simp [dg_of h1 h2]
theorem readV_ok {s : List UInt8} {n : Nat} {v x : Int} (h : readV s = (n, v, x)) : (x = 0 ∧ rightB n v = true ∧ printL n v = s) ∨ (n = 0 ∧ v = 0 ∧ x = 2) := by
  have no : ((0, 0, 2) : Nat × Int × Int) = (n, v, x) → (n = 0 ∧ v = 0 ∧ x = 2) := by
    intro e
    injection e with e1 e2
    injection e2 with e2 e3
    exact ⟨e1.symm, e2.symm, e3.symm⟩
  match s, h with
  | [], h => exact .inr (no h)
  | [_], h => exact .inr (no h)
  | a :: b :: l, h =>
    rw [readV] at h
    split at h
    · rename_i hb
      split at h
      · rename_i m hm
        split at h
        · rename_i hr
          injection h with e1 e2
          injection e2 with e2 e3
          subst e1 e2 e3
          obtain ⟨_, i2⟩ := rdL_some l 0 m 0 (by omega) (by decide) hm
          refine .inl ⟨rfl, hr, ?_⟩
          obtain ⟨_, r1, r2⟩ := rightB_iff.1 hr
          rw [printL_yes hr, i2]
          have hb' : b = 58 := UInt8.toNat_inj.1 (by rw [hb]; rfl)
          rw [hb', show ((a.toNat : Int) - 48).toNat = a.toNat - 48 by omega, dg_of (by omega) (by omega)]
          rfl
        · exact .inr (no h)
      · exact .inr (no h)
    · exact .inr (no h)
theorem rread_eq (s : List UInt8) : rreadV s = readV s := by
  obtain ⟨n, v, x, h⟩ : ∃ n v x, readV s = (n, v, x) := ⟨_, _, _, rfl⟩
  rw [h]
  unfold rreadV
  rcases readV_ok h with ⟨rfl, hr, hp⟩ | ⟨rfl, rfl, rfl⟩
  · obtain ⟨_, b2, b3⟩ := back_r hr
    rw [hp] at b2 b3
    rw [b2, b3, hp]
    have : 2 ≤ s.length := by rw [← hp, printL_yes hr]; simp
    rw [if_neg (by simp; omega)]
  · by_cases hc : s.length < 2 ∨ printL (lenL 0 (s.drop 2)) (levL s) ≠ s
    · rw [if_pos hc]
    · have hl : 2 ≤ s.length := by
        rcases Nat.lt_or_ge s.length 2 with g | g
        · exact absurd (.inl g) hc
        · exact g
      have hp : printL (lenL 0 (s.drop 2)) (levL s) = s := Classical.byContradiction fun g => hc (.inr g)
      have hr : rightB (lenL 0 (s.drop 2)) (levL s) = true := by
        cases e : rightB (lenL 0 (s.drop 2)) (levL s)
        · rw [printL_no e] at hp; rw [← hp] at hl; simp at hl
        · rfl
      obtain ⟨b1, _, _⟩ := back_r hr
      rw [hp, h] at b1
      injection b1 with _ b1
      injection b1 with _ b1
      cases b1

/-- Sets. -/
theorem sub_iff {a b : Nat} : a &&& b = a ↔ ∀ i, a.testBit i = true → b.testBit i = true := by
  constructor
  · intro h i hi
    rw [← h, Nat.testBit_and] at hi
    simp at hi
    exact hi.2
  · intro h
    refine Nat.eq_of_testBit_eq fun i => ?_
    rw [Nat.testBit_and]
    cases e : a.testBit i
    · rfl
    · rw [h i e]; rfl
theorem sub_256 {a b : Nat} (ha : a < 256) : a &&& b = a ↔ ∀ k ∈ memL a, k ∈ memL b := by
  rw [sub_iff]
  constructor
  · intro h k hk
    obtain ⟨h1, h2⟩ := memL_mem.1 hk
    exact memL_mem.2 ⟨h1, h k h2⟩
  · intro h i hi
    have : i < 8 := by
      rcases Nat.lt_or_ge i 8 with c | c
      · exact c
      · have : a < 2 ^ i := Nat.lt_of_lt_of_le ha (Nat.pow_le_pow_right (n := 2) (by decide) c)
        rw [Nat.testBit_lt_two_pow this] at hi
        cases hi
    exact (memL_mem.1 (h i (memL_mem.2 ⟨this, hi⟩))).2
theorem len_two (a b : Nat) : ∀ k, (memK (a &&& b) k).length + (memK (a ||| b) k).length = (memK a k).length + (memK b k).length
  | 0 => by simp [memK]
  | k + 1 => by
    have := len_two a b k
    simp only [memK_succ, List.length_append, Nat.testBit_and, Nat.testBit_or]
    cases a.testBit k <;> cases b.testBit k <;> simp <;> omega
theorem andNot_zero {a b : Nat} (ha : a < 18446744073709551616) (hb : b < 18446744073709551616) : (a &&& (18446744073709551615 - b)) = 0 ↔ a &&& b = a := by
  have e : 18446744073709551615 - b = 2 ^ 64 - (b + 1) := by rw [show (2 : Nat) ^ 64 = 18446744073709551616 from rfl]; omega
  rw [sub_iff, e]
  have hb' : b < 2 ^ 64 := hb
  constructor
  · intro h i hi
    have h2 : (a &&& (2 ^ 64 - (b + 1))).testBit i = false := by rw [h]; simp
    rw [Nat.testBit_and, hi, Nat.testBit_two_pow_sub_succ hb'] at h2
    have : i < 64 := by
      rcases Nat.lt_or_ge i 64 with c | c
      · exact c
      · have : a < 2 ^ i := Nat.lt_of_lt_of_le ha (Nat.pow_le_pow_right (n := 2) (by decide) c)
        rw [Nat.testBit_lt_two_pow this] at hi
        cases hi
    simpa [this] using h2
  · intro h
    refine Nat.eq_of_testBit_eq fun i => ?_
    rw [Nat.testBit_and, Nat.testBit_two_pow_sub_succ hb', Nat.zero_testBit]
    cases e : a.testBit i
    · rfl
    · rw [h i e]; simp
theorem bit_and (n k : Nat) : n &&& 2 ^ k = 0 ↔ n.testBit k = false := by
  constructor
  · intro h
    have h2 : (n &&& 2 ^ k).testBit k = false := by rw [h]; simp
    rw [Nat.testBit_and, Nat.testBit_two_pow_self] at h2
    simpa using h2
  · intro h
    refine Nat.eq_of_testBit_eq fun i => ?_
    rw [Nat.testBit_and, Nat.testBit_two_pow, Nat.zero_testBit]
    by_cases e : k = i
    · subst e; rw [h]; rfl
    · simp [e]
theorem or_lt {a b : Nat} (ha : a < 18446744073709551616) (hb : b < 18446744073709551616) : a ||| b < 18446744073709551616 := Nat.or_lt_two_pow (n := 64) ha hb
theorem and_lt' {a : Nat} (b : Nat) (ha : a < 18446744073709551616) : a &&& b < 18446744073709551616 := Nat.lt_of_le_of_lt Nat.and_le_left ha
theorem shr_bit (n k : Nat) : n / 2 ^ k % 2 = 1 ↔ n.testBit k = true := by
  rw [Nat.testBit_eq_decide_div_mod_eq]
  simp
end Go.Proofs.Ytakofbkbbmpfeaa

namespace Go.Proofs.Ytakofbkbbmpfeaa
open Go.RowKit
theorem pow_cases (P : Nat → Prop) (h0 : P 0) (h1 : P 1) (h2 : P 2) (h3 : P 3) (h4 : P 4) (h5 : P 5) (h6 : P 6) (h7 : P 7) (h8 : P 8) : ∀ k, k ≤ 8 → P k
  | 0, _ => h0 | 1, _ => h1 | 2, _ => h2 | 3, _ => h3 | 4, _ => h4 | 5, _ => h5 | 6, _ => h6 | 7, _ => h7 | 8, _ => h8
  | _ + 9, h => by omega
theorem bit_c (k : Nat) (x : Int) (w : World) (hx : x = (k : Int)) (hk : k ≤ 8) : Calls Try.prog 51 #[.int .i64 x] w fun e w' => e = .returned (.int .u64 ((2 ^ k : Nat) : Int)) ∧ w = w' := by
  subst hx
  refine pow_cases (fun k => Calls Try.prog 51 #[.int .i64 (k : Int)] w fun e w' => e = .returned (.int .u64 ((2 ^ k : Nat) : Int)) ∧ w = w') ?_ ?_ ?_ ?_ ?_ ?_ ?_ ?_ ?_ k hk <;>
  · go_enter Try.func51, Try.ntmps51
    go_wp2
    go_ret
    exact ⟨rfl, rfl⟩
def labV (n : Nat) (v : Int) : Value := .agg #[.int .u64 (n : Int), .int .i64 v]
/-- A label was returned; what was there stays. -/
def RetL (w : World) (n : Nat) (v : Int) (e : Ending) (w' : World) : Prop := e = .returned (.agg #[.int .u64 (n : Int), .int .i64 v]) ∧ Below w.heap.size w w'
def RetB (w : World) (b : Bool) (e : Ending) (w' : World) : Prop := e = .returned (.bool b) ∧ Below w.heap.size w w'
theorem or_bits {a b : Nat} {x y : Int} (ha : a < 18446744073709551616) (hb : b < 18446744073709551616) (hx : x = (a : Int)) (hy : y = (b : Int)) : bits .or .u64 x y = ((a ||| b : Nat) : Int) := by
  rw [hx, hy]; exact u64_or_nat a b ha hb
theorem and_bits {a b : Nat} {x y : Int} (ha : a < 18446744073709551616) (hb : b < 18446744073709551616) (hx : x = (a : Int)) (hy : y = (b : Int)) : bits .and .u64 x y = ((a &&& b : Nat) : Int) := by
  rw [hx, hy]; exact u64_and_nat a b ha hb
theorem andNot_bits {a b : Nat} {x y : Int} (ha : a < 18446744073709551616) (hb : b < 18446744073709551616) (hx : x = (a : Int)) (hy : y = (b : Int)) : (bits .andNot .u64 x y == 0) = decide (a &&& b = a) := by
  rw [hx, hy, u64_andNot_nat a b ha hb]
  have h := andNot_zero ha hb
  by_cases e : a &&& b = a
  · rw [h.2 e, decide_eq_true e]; rfl
  · rw [decide_eq_false e]
    have : a &&& (18446744073709551615 - b) ≠ 0 := fun g => e (h.1 g)
    simp only [beq_eq_false_iff_ne, ne_eq]
    omega
section
variable (a b : Nat) (x y v u : Int) (w : World) (hx : x = (a : Int)) (hy : y = (b : Int)) (ha : a < 18446744073709551616) (hb : b < 18446744073709551616)
include hx hy ha hb
theorem join_c : Calls Try.prog 37 #[.agg #[.int .u64 x, .int .i64 v], .agg #[.int .u64 y, .int .i64 u]] w (RetL w (a ||| b) (max v u)) := by
  have ho := or_bits ha hb hx hy
  clear hx hy
  go_enter Try.func37, Try.ntmps37
  go_wp2
  all_goals exact bodyPost_ret (v := .agg #[.int .u64 ((a ||| b : Nat) : Int), .int .i64 (max v u)]) (by simp [results, Try.results37, go_sem]; omega) rfl ⟨rfl, bel_alloc (bel_alloc (bel_alloc (Below.refl _ _) _) _) _⟩
theorem below_c : Calls Try.prog 40 #[.agg #[.int .u64 x, .int .i64 v], .agg #[.int .u64 y, .int .i64 u]] w (RetB w (belowB a v b u)) := by
  have ho := andNot_bits ha hb hx hy
  clear hx hy
  by_cases hs : a &&& b = a
  · rw [decide_eq_true hs] at ho
    go_enter Try.func40, Try.ntmps40
    go_wp2
    go_ret
    exact ⟨by simp [belowB, hs], bel_alloc (bel_alloc (Below.refl _ _) _) _⟩
  · rw [decide_eq_false hs] at ho
    go_enter Try.func40, Try.ntmps40
    go_wp2
    go_ret
    exact ⟨by simp [belowB, hs], bel_alloc (bel_alloc (Below.refl _ _) _) _⟩
end
def BoxR (g : Nat) (x v : Int) (W V : World) : Prop := V.cell? ⟨g, 0, none⟩ = some (.int .u64 x) ∧ V.cell? ⟨g, 1, none⟩ = some (.int .i64 v) ∧ Below W.heap.size W V
theorem labRight_c (a : Nat) (x v : Int) (w : World) (hx : x = (a : Int)) : Calls Try.prog 45 #[.agg #[.int .u64 x, .int .i64 v]] w (RetB w (rightB a v)) := by
  have hR : ∀ P Q R : Bool, decide (x < 256) = P → decide (0 ≤ v) = Q → decide (v ≤ 3) = R → rightB a v = (P && Q && R) := by
    rintro P Q R rfl rfl rfl
    unfold rightB
    congr 2
    exact decide_eq_decide.2 (by omega)
  clear hx
  have hS0 : BoxR w.heap.size x v w ((w.alloc (.cells #[.int .u64 x, .int .i64 v] 33)).drew) := ⟨by simp, by simp, (bel_alloc (Below.refl _ _) _).drew⟩
  by_cases hs : x < 256
  · have hd : decide (x < 256) = true := decide_eq_true hs
    by_cases h0 : 0 ≤ v
    · have hd0 : decide (0 ≤ v) = true := decide_eq_true h0
      have h2 := hR true true _ hd hd0 rfl
      clear hR
      go_enter Try.func45, Try.ntmps45
      go_wp2_with fail
      refine wp_region_det (S := BoxR w.heap.size x v w) (by kernel_rfl) hS0 ?_
      refine det_take (v := ?_) (i := 0) (fuel := 14) (by simp; rfl) (by kernel_rfl) (by kernel_rfl) (by kernel_rfl) (Or.inl ⟨by rfl, fun w' hS => Or.inl ⟨w', ?_, hS⟩⟩) ?_
      rotate_left
      · obtain ⟨c0, c1, _⟩ := hS
        go_simp
        all_goals with_reducible rfl
      simp only [Act.put, List.setIfInBounds_toArray, List.set_cons_zero, List.set_cons_succ]
      refine det_take (v := ?_) (i := 1) (fuel := 13) (by simp; rfl) (by kernel_rfl) (by kernel_rfl) (by kernel_rfl) (Or.inl ⟨by rfl, fun w' hS => Or.inl ⟨w', ?_, hS⟩⟩) ?_
      rotate_left
      · obtain ⟨c0, c1, _⟩ := hS
        go_simp
        all_goals with_reducible rfl
      simp only [Act.put, List.setIfInBounds_toArray, List.set_cons_zero, List.set_cons_succ]
      refine det_take (v := ?_) (i := 2) (fuel := 12) (by simp; rfl) (by kernel_rfl) (by kernel_rfl) (by kernel_rfl) (Or.inl ⟨by rfl, fun w' hS => Or.inr ⟨51, #[.int .i64 8], w', ?_, ?_⟩⟩) ?_
      rotate_left
      · go_simp
        all_goals with_reducible rfl
      · exact (bit_c 8 8 w' rfl (by decide)).mono fun e w2 h => ⟨by rw [h.1], h.2 ▸ hS⟩
      simp only [Act.put, List.setIfInBounds_toArray, List.set_cons_zero, List.set_cons_succ]
      refine det_take (v := ?_) (i := 3) (fuel := 11) (by simp; rfl) (by kernel_rfl) (by kernel_rfl) (by kernel_rfl) (Or.inl ⟨by rfl, fun w' hS => Or.inl ⟨w', ?_, hS⟩⟩) ?_
      rotate_left
      · obtain ⟨c0, c1, _⟩ := hS
        go_simp
        all_goals with_reducible rfl
      simp only [Act.put, List.setIfInBounds_toArray, List.set_cons_zero, List.set_cons_succ]
      refine det_take (v := ?_) (i := 4) (fuel := 10) (by simp; rfl) (by kernel_rfl) (by kernel_rfl) (by kernel_rfl) (Or.inl ⟨by rfl, fun w' hS => Or.inl ⟨w', ?_, hS⟩⟩) ?_
      rotate_left
      · obtain ⟨c0, c1, _⟩ := hS
        go_simp
        all_goals with_reducible rfl
      simp only [Act.put, List.setIfInBounds_toArray, List.set_cons_zero, List.set_cons_succ]
      refine det_take (v := ?_) (i := 5) (fuel := 9) (by simp; rfl) (by kernel_rfl) (by kernel_rfl) (by kernel_rfl) (Or.inl ⟨by rfl, fun w' hS => Or.inl ⟨w', ?_, hS⟩⟩) ?_
      rotate_left
      · obtain ⟨c0, c1, _⟩ := hS
        go_simp
        all_goals with_reducible rfl
      simp only [Act.put, List.setIfInBounds_toArray, List.set_cons_zero, List.set_cons_succ]
      refine det_take (v := ?_) (i := 6) (fuel := 8) (by simp; rfl) (by kernel_rfl) (by kernel_rfl) (by kernel_rfl) (Or.inl ⟨by rfl, fun w' hS => Or.inl ⟨w', ?_, hS⟩⟩) ?_
      rotate_left
      · obtain ⟨c0, c1, _⟩ := hS
        go_simp
        all_goals with_reducible rfl
      simp only [Act.put, List.setIfInBounds_toArray, List.set_cons_zero, List.set_cons_succ]
      refine det_take (v := ?_) (i := 7) (fuel := 7) (by simp; rfl) (by kernel_rfl) (by kernel_rfl) (by kernel_rfl) (Or.inl ⟨by rfl, fun w' hS => Or.inl ⟨w', ?_, hS⟩⟩) ?_
      rotate_left
      · obtain ⟨c0, c1, _⟩ := hS
        go_simp
        all_goals with_reducible rfl
      simp only [Act.put, List.setIfInBounds_toArray, List.set_cons_zero, List.set_cons_succ]
      refine det_take (v := ?_) (i := 8) (fuel := 6) (by simp; rfl) (by kernel_rfl) (by kernel_rfl) (by kernel_rfl) (Or.inl ⟨by rfl, fun w' hS => Or.inl ⟨w', ?_, hS⟩⟩) ?_
      rotate_left
      · obtain ⟨c0, c1, _⟩ := hS
        go_simp
        all_goals with_reducible rfl
      simp only [Act.put, List.setIfInBounds_toArray, List.set_cons_zero, List.set_cons_succ]
      refine det_take (v := ?_) (i := 9) (fuel := 5) (by simp; rfl) (by kernel_rfl) (by kernel_rfl) (by kernel_rfl) (Or.inl ⟨by rfl, fun w' hS => Or.inl ⟨w', ?_, hS⟩⟩) ?_
      rotate_left
      · obtain ⟨c0, c1, _⟩ := hS
        go_simp
        all_goals with_reducible rfl
      simp only [Act.put, List.setIfInBounds_toArray, List.set_cons_zero, List.set_cons_succ]
      refine det_take (v := ?_) (i := 10) (fuel := 4) (by simp; rfl) (by kernel_rfl) (by kernel_rfl) (by kernel_rfl) (Or.inl ⟨by rfl, fun w' hS => Or.inl ⟨w', ?_, hS⟩⟩) ?_
      rotate_left
      · obtain ⟨c0, c1, _⟩ := hS
        go_simp
        all_goals with_reducible rfl
      simp only [Act.put, List.setIfInBounds_toArray, List.set_cons_zero, List.set_cons_succ]
      refine det_take (v := ?_) (i := 11) (fuel := 3) (by simp; rfl) (by kernel_rfl) (by kernel_rfl) (by kernel_rfl) (Or.inl ⟨by rfl, fun w' hS => Or.inl ⟨w', ?_, hS⟩⟩) ?_
      rotate_left
      · obtain ⟨c0, c1, _⟩ := hS
        go_simp
        all_goals with_reducible rfl
      simp only [Act.put, List.setIfInBounds_toArray, List.set_cons_zero, List.set_cons_succ]
      refine det_take (v := ?_) (i := 12) (fuel := 2) (by simp; rfl) (by kernel_rfl) (by kernel_rfl) (by kernel_rfl) (Or.inl ⟨by rfl, fun w' hS => Or.inl ⟨w', ?_, hS⟩⟩) ?_
      rotate_left
      · obtain ⟨c0, c1, _⟩ := hS
        go_simp
        all_goals with_reducible rfl
      simp only [Act.put, List.setIfInBounds_toArray, List.set_cons_zero, List.set_cons_succ]
      refine det_take (v := ?_) (i := 13) (fuel := 1) (by simp; rfl) (by kernel_rfl) (by kernel_rfl) (by kernel_rfl) (Or.inl ⟨by rfl, fun w' hS => Or.inl ⟨w', ?_, hS⟩⟩) ?_
      rotate_left
      · obtain ⟨c0, c1, _⟩ := hS
        go_simp
        all_goals with_reducible rfl
      simp only [Act.put, List.setIfInBounds_toArray, List.set_cons_zero, List.set_cons_succ]
      refine det_take (v := ?_) (i := 14) (fuel := 0) (by simp; rfl) (by kernel_rfl) (by kernel_rfl) (by kernel_rfl) (Or.inl ⟨by rfl, fun w' hS => Or.inl ⟨w', ?_, hS⟩⟩) ?_
      rotate_left
      · obtain ⟨c0, c1, _⟩ := hS
        go_simp
        all_goals with_reducible rfl
      simp only [Act.put, List.setIfInBounds_toArray, List.set_cons_zero, List.set_cons_succ]
      refine det_done (by kernel_rfl) (fun V hV => ?_) _
      go_wp2
      go_ret
      refine ⟨?_, hV.2.2⟩
      rw [h2]
      simp
    · have hd0 : decide (0 ≤ v) = false := decide_eq_false h0
      have h2 := hR true false _ hd hd0 rfl
      clear hR
      go_enter Try.func45, Try.ntmps45
      go_wp2_with fail
      refine wp_region_det (S := BoxR w.heap.size x v w) (by kernel_rfl) hS0 ?_
      refine det_take (v := ?_) (i := 0) (fuel := 14) (by simp; rfl) (by kernel_rfl) (by kernel_rfl) (by kernel_rfl) (Or.inl ⟨by rfl, fun w' hS => Or.inl ⟨w', ?_, hS⟩⟩) ?_
      rotate_left
      · obtain ⟨c0, c1, _⟩ := hS
        go_simp
        all_goals with_reducible rfl
      simp only [Act.put, List.setIfInBounds_toArray, List.set_cons_zero, List.set_cons_succ]
      refine det_take (v := ?_) (i := 1) (fuel := 13) (by simp; rfl) (by kernel_rfl) (by kernel_rfl) (by kernel_rfl) (Or.inl ⟨by rfl, fun w' hS => Or.inl ⟨w', ?_, hS⟩⟩) ?_
      rotate_left
      · obtain ⟨c0, c1, _⟩ := hS
        go_simp
        all_goals with_reducible rfl
      simp only [Act.put, List.setIfInBounds_toArray, List.set_cons_zero, List.set_cons_succ]
      refine det_take (v := ?_) (i := 2) (fuel := 12) (by simp; rfl) (by kernel_rfl) (by kernel_rfl) (by kernel_rfl) (Or.inl ⟨by rfl, fun w' hS => Or.inr ⟨51, #[.int .i64 8], w', ?_, ?_⟩⟩) ?_
      rotate_left
      · go_simp
        all_goals with_reducible rfl
      · exact (bit_c 8 8 w' rfl (by decide)).mono fun e w2 h => ⟨by rw [h.1], h.2 ▸ hS⟩
      simp only [Act.put, List.setIfInBounds_toArray, List.set_cons_zero, List.set_cons_succ]
      refine det_take (v := ?_) (i := 3) (fuel := 11) (by simp; rfl) (by kernel_rfl) (by kernel_rfl) (by kernel_rfl) (Or.inl ⟨by rfl, fun w' hS => Or.inl ⟨w', ?_, hS⟩⟩) ?_
      rotate_left
      · obtain ⟨c0, c1, _⟩ := hS
        go_simp
        all_goals with_reducible rfl
      simp only [Act.put, List.setIfInBounds_toArray, List.set_cons_zero, List.set_cons_succ]
      refine det_take (v := ?_) (i := 4) (fuel := 10) (by simp; rfl) (by kernel_rfl) (by kernel_rfl) (by kernel_rfl) (Or.inl ⟨by rfl, fun w' hS => Or.inl ⟨w', ?_, hS⟩⟩) ?_
      rotate_left
      · obtain ⟨c0, c1, _⟩ := hS
        go_simp
        all_goals with_reducible rfl
      simp only [Act.put, List.setIfInBounds_toArray, List.set_cons_zero, List.set_cons_succ]
      refine det_take (v := ?_) (i := 5) (fuel := 9) (by simp; rfl) (by kernel_rfl) (by kernel_rfl) (by kernel_rfl) (Or.inl ⟨by rfl, fun w' hS => Or.inl ⟨w', ?_, hS⟩⟩) ?_
      rotate_left
      · obtain ⟨c0, c1, _⟩ := hS
        go_simp
        all_goals with_reducible rfl
      simp only [Act.put, List.setIfInBounds_toArray, List.set_cons_zero, List.set_cons_succ]
      refine det_take (v := ?_) (i := 6) (fuel := 8) (by simp; rfl) (by kernel_rfl) (by kernel_rfl) (by kernel_rfl) (Or.inl ⟨by rfl, fun w' hS => Or.inl ⟨w', ?_, hS⟩⟩) ?_
      rotate_left
      · obtain ⟨c0, c1, _⟩ := hS
        go_simp
        all_goals with_reducible rfl
      simp only [Act.put, List.setIfInBounds_toArray, List.set_cons_zero, List.set_cons_succ]
      refine det_take (v := ?_) (i := 7) (fuel := 7) (by simp; rfl) (by kernel_rfl) (by kernel_rfl) (by kernel_rfl) (Or.inl ⟨by rfl, fun w' hS => Or.inl ⟨w', ?_, hS⟩⟩) ?_
      rotate_left
      · obtain ⟨c0, c1, _⟩ := hS
        go_simp
        all_goals with_reducible rfl
      simp only [Act.put, List.setIfInBounds_toArray, List.set_cons_zero, List.set_cons_succ]
      refine det_take (v := ?_) (i := 8) (fuel := 6) (by simp; rfl) (by kernel_rfl) (by kernel_rfl) (by kernel_rfl) (Or.inl ⟨by rfl, fun w' hS => Or.inl ⟨w', ?_, hS⟩⟩) ?_
      rotate_left
      · obtain ⟨c0, c1, _⟩ := hS
        go_simp
        all_goals with_reducible rfl
      simp only [Act.put, List.setIfInBounds_toArray, List.set_cons_zero, List.set_cons_succ]
      refine det_take (v := ?_) (i := 9) (fuel := 5) (by simp; rfl) (by kernel_rfl) (by kernel_rfl) (by kernel_rfl) (Or.inl ⟨by rfl, fun w' hS => Or.inl ⟨w', ?_, hS⟩⟩) ?_
      rotate_left
      · obtain ⟨c0, c1, _⟩ := hS
        go_simp
        all_goals with_reducible rfl
      simp only [Act.put, List.setIfInBounds_toArray, List.set_cons_zero, List.set_cons_succ]
      refine det_take (v := undef) (i := 10) (fuel := 4) (by simp; rfl) (by kernel_rfl) (by kernel_rfl) (by kernel_rfl) (Or.inr ⟨by rfl, by rfl⟩) ?_
      simp only [Act.put, List.setIfInBounds_toArray, List.set_cons_zero, List.set_cons_succ]
      refine det_take (v := undef) (i := 11) (fuel := 3) (by simp; rfl) (by kernel_rfl) (by kernel_rfl) (by kernel_rfl) (Or.inr ⟨by rfl, by rfl⟩) ?_
      simp only [Act.put, List.setIfInBounds_toArray, List.set_cons_zero, List.set_cons_succ]
      refine det_take (v := undef) (i := 12) (fuel := 2) (by simp; rfl) (by kernel_rfl) (by kernel_rfl) (by kernel_rfl) (Or.inr ⟨by rfl, by rfl⟩) ?_
      simp only [Act.put, List.setIfInBounds_toArray, List.set_cons_zero, List.set_cons_succ]
      refine det_take (v := ?_) (i := 13) (fuel := 1) (by simp; rfl) (by kernel_rfl) (by kernel_rfl) (by kernel_rfl) (Or.inl ⟨by rfl, fun w' hS => Or.inl ⟨w', ?_, hS⟩⟩) ?_
      rotate_left
      · obtain ⟨c0, c1, _⟩ := hS
        go_simp
        all_goals with_reducible rfl
      simp only [Act.put, List.setIfInBounds_toArray, List.set_cons_zero, List.set_cons_succ]
      refine det_take (v := ?_) (i := 14) (fuel := 0) (by simp; rfl) (by kernel_rfl) (by kernel_rfl) (by kernel_rfl) (Or.inl ⟨by rfl, fun w' hS => Or.inl ⟨w', ?_, hS⟩⟩) ?_
      rotate_left
      · obtain ⟨c0, c1, _⟩ := hS
        go_simp
        all_goals with_reducible rfl
      simp only [Act.put, List.setIfInBounds_toArray, List.set_cons_zero, List.set_cons_succ]
      refine det_done (by kernel_rfl) (fun V hV => ?_) _
      go_wp2
      go_ret
      refine ⟨?_, hV.2.2⟩
      rw [h2]
      simp
  · have hd : decide (x < 256) = false := decide_eq_false hs
    have h2 := hR false _ _ hd rfl rfl
    clear hR
    go_enter Try.func45, Try.ntmps45
    go_wp2_with fail
    refine wp_region_det (S := BoxR w.heap.size x v w) (by kernel_rfl) hS0 ?_
    refine det_take (v := ?_) (i := 0) (fuel := 14) (by simp; rfl) (by kernel_rfl) (by kernel_rfl) (by kernel_rfl) (Or.inl ⟨by rfl, fun w' hS => Or.inl ⟨w', ?_, hS⟩⟩) ?_
    rotate_left
    · obtain ⟨c0, c1, _⟩ := hS
      go_simp
      all_goals with_reducible rfl
    simp only [Act.put, List.setIfInBounds_toArray, List.set_cons_zero, List.set_cons_succ]
    refine det_take (v := ?_) (i := 1) (fuel := 13) (by simp; rfl) (by kernel_rfl) (by kernel_rfl) (by kernel_rfl) (Or.inl ⟨by rfl, fun w' hS => Or.inl ⟨w', ?_, hS⟩⟩) ?_
    rotate_left
    · obtain ⟨c0, c1, _⟩ := hS
      go_simp
      all_goals with_reducible rfl
    simp only [Act.put, List.setIfInBounds_toArray, List.set_cons_zero, List.set_cons_succ]
    refine det_take (v := ?_) (i := 2) (fuel := 12) (by simp; rfl) (by kernel_rfl) (by kernel_rfl) (by kernel_rfl) (Or.inl ⟨by rfl, fun w' hS => Or.inr ⟨51, #[.int .i64 8], w', ?_, ?_⟩⟩) ?_
    rotate_left
    · go_simp
      all_goals with_reducible rfl
    · exact (bit_c 8 8 w' rfl (by decide)).mono fun e w2 h => ⟨by rw [h.1], h.2 ▸ hS⟩
    simp only [Act.put, List.setIfInBounds_toArray, List.set_cons_zero, List.set_cons_succ]
    refine det_take (v := ?_) (i := 3) (fuel := 11) (by simp; rfl) (by kernel_rfl) (by kernel_rfl) (by kernel_rfl) (Or.inl ⟨by rfl, fun w' hS => Or.inl ⟨w', ?_, hS⟩⟩) ?_
    rotate_left
    · obtain ⟨c0, c1, _⟩ := hS
      go_simp
      all_goals with_reducible rfl
    simp only [Act.put, List.setIfInBounds_toArray, List.set_cons_zero, List.set_cons_succ]
    refine det_take (v := ?_) (i := 4) (fuel := 10) (by simp; rfl) (by kernel_rfl) (by kernel_rfl) (by kernel_rfl) (Or.inl ⟨by rfl, fun w' hS => Or.inl ⟨w', ?_, hS⟩⟩) ?_
    rotate_left
    · obtain ⟨c0, c1, _⟩ := hS
      go_simp
      all_goals with_reducible rfl
    simp only [Act.put, List.setIfInBounds_toArray, List.set_cons_zero, List.set_cons_succ]
    refine det_take (v := undef) (i := 5) (fuel := 9) (by simp; rfl) (by kernel_rfl) (by kernel_rfl) (by kernel_rfl) (Or.inr ⟨by rfl, by rfl⟩) ?_
    simp only [Act.put, List.setIfInBounds_toArray, List.set_cons_zero, List.set_cons_succ]
    refine det_take (v := undef) (i := 6) (fuel := 8) (by simp; rfl) (by kernel_rfl) (by kernel_rfl) (by kernel_rfl) (Or.inr ⟨by rfl, by rfl⟩) ?_
    simp only [Act.put, List.setIfInBounds_toArray, List.set_cons_zero, List.set_cons_succ]
    refine det_take (v := undef) (i := 7) (fuel := 7) (by simp; rfl) (by kernel_rfl) (by kernel_rfl) (by kernel_rfl) (Or.inr ⟨by rfl, by rfl⟩) ?_
    simp only [Act.put, List.setIfInBounds_toArray, List.set_cons_zero, List.set_cons_succ]
    refine det_take (v := ?_) (i := 8) (fuel := 6) (by simp; rfl) (by kernel_rfl) (by kernel_rfl) (by kernel_rfl) (Or.inl ⟨by rfl, fun w' hS => Or.inl ⟨w', ?_, hS⟩⟩) ?_
    rotate_left
    · obtain ⟨c0, c1, _⟩ := hS
      go_simp
      all_goals with_reducible rfl
    simp only [Act.put, List.setIfInBounds_toArray, List.set_cons_zero, List.set_cons_succ]
    refine det_take (v := ?_) (i := 9) (fuel := 5) (by simp; rfl) (by kernel_rfl) (by kernel_rfl) (by kernel_rfl) (Or.inl ⟨by rfl, fun w' hS => Or.inl ⟨w', ?_, hS⟩⟩) ?_
    rotate_left
    · obtain ⟨c0, c1, _⟩ := hS
      go_simp
      all_goals with_reducible rfl
    simp only [Act.put, List.setIfInBounds_toArray, List.set_cons_zero, List.set_cons_succ]
    refine det_take (v := undef) (i := 10) (fuel := 4) (by simp; rfl) (by kernel_rfl) (by kernel_rfl) (by kernel_rfl) (Or.inr ⟨by rfl, by rfl⟩) ?_
    simp only [Act.put, List.setIfInBounds_toArray, List.set_cons_zero, List.set_cons_succ]
    refine det_take (v := undef) (i := 11) (fuel := 3) (by simp; rfl) (by kernel_rfl) (by kernel_rfl) (by kernel_rfl) (Or.inr ⟨by rfl, by rfl⟩) ?_
    simp only [Act.put, List.setIfInBounds_toArray, List.set_cons_zero, List.set_cons_succ]
    refine det_take (v := undef) (i := 12) (fuel := 2) (by simp; rfl) (by kernel_rfl) (by kernel_rfl) (by kernel_rfl) (Or.inr ⟨by rfl, by rfl⟩) ?_
    simp only [Act.put, List.setIfInBounds_toArray, List.set_cons_zero, List.set_cons_succ]
    refine det_take (v := ?_) (i := 13) (fuel := 1) (by simp; rfl) (by kernel_rfl) (by kernel_rfl) (by kernel_rfl) (Or.inl ⟨by rfl, fun w' hS => Or.inl ⟨w', ?_, hS⟩⟩) ?_
    rotate_left
    · obtain ⟨c0, c1, _⟩ := hS
      go_simp
      all_goals with_reducible rfl
    simp only [Act.put, List.setIfInBounds_toArray, List.set_cons_zero, List.set_cons_succ]
    refine det_take (v := ?_) (i := 14) (fuel := 0) (by simp; rfl) (by kernel_rfl) (by kernel_rfl) (by kernel_rfl) (Or.inl ⟨by rfl, fun w' hS => Or.inl ⟨w', ?_, hS⟩⟩) ?_
    rotate_left
    · obtain ⟨c0, c1, _⟩ := hS
      go_simp
      all_goals with_reducible rfl
    simp only [Act.put, List.setIfInBounds_toArray, List.set_cons_zero, List.set_cons_succ]
    refine det_done (by kernel_rfl) (fun V hV => ?_) _
    go_wp2
    go_ret
    refine ⟨?_, hV.2.2⟩
    rw [h2]
    simp
theorem labOf_c (x v : Int) (w : World) : Calls Try.prog 34 #[.int .i64 x, .int .i64 v] w (RetL w (ofSet x) (min (max v 0) 3)) := by
  rcases (by omega : v < 0 ∨ (0 ≤ v ∧ v ≤ 3) ∨ 3 < v) with hv | ⟨hv, hv3⟩ | hv
  · rw [show min (max v 0) 3 = (0 : Int) by omega]
    by_cases hs : 0 ≤ x ∧ x < 8
    · obtain ⟨k, rfl⟩ : ∃ k : Nat, x = (k : Int) := ⟨x.toNat, by omega⟩
      have hk : k < 8 := by omega
      rw [ofSet_nat hk]
      obtain ⟨h0, h8⟩ := hs
      go_enter Try.func34, Try.ntmps34
      go_wp2_with fail
      (with_reducible refine (bit_c k _ _ rfl (by omega)).mono ?_)
      rintro e w' ⟨rfl, rfl⟩
      go_wp2
      refine bodyPost_ret (v := .agg #[.int .u64 ((2 ^ k : Nat) : Int), .int .i64 0]) (by simp [results, Try.results34, go_sem]) rfl ⟨rfl, ?_⟩
      exact bel_alloc (bel_alloc (Below.refl _ _) _) _
    · have : ofSet x = 0 := by unfold ofSet; rw [if_neg hs]
      rw [this]
      by_cases h0 : 0 ≤ x
      · have h8 : ¬ x < 8 := fun h => hs ⟨h0, h⟩
        go_enter Try.func34, Try.ntmps34
        go_wp2
        refine bodyPost_ret (v := .agg #[.int .u64 ((0 : Nat) : Int), .int .i64 0]) (by simp [results, Try.results34, go_sem]) rfl ⟨rfl, ?_⟩
        exact bel_alloc (bel_alloc (Below.refl _ _) _) _
      · go_enter Try.func34, Try.ntmps34
        go_wp2
        refine bodyPost_ret (v := .agg #[.int .u64 ((0 : Nat) : Int), .int .i64 0]) (by simp [results, Try.results34, go_sem]) rfl ⟨rfl, ?_⟩
        exact bel_alloc (bel_alloc (Below.refl _ _) _) _
  · rw [show min (max v 0) 3 = v by omega]
    by_cases hs : 0 ≤ x ∧ x < 8
    · obtain ⟨k, rfl⟩ : ∃ k : Nat, x = (k : Int) := ⟨x.toNat, by omega⟩
      have hk : k < 8 := by omega
      rw [ofSet_nat hk]
      obtain ⟨h0, h8⟩ := hs
      go_enter Try.func34, Try.ntmps34
      go_wp2_with fail
      (with_reducible refine (bit_c k _ _ rfl (by omega)).mono ?_)
      rintro e w' ⟨rfl, rfl⟩
      go_wp2
      refine bodyPost_ret (v := .agg #[.int .u64 ((2 ^ k : Nat) : Int), .int .i64 v]) (by simp [results, Try.results34, go_sem]) rfl ⟨rfl, ?_⟩
      exact bel_alloc (bel_alloc (Below.refl _ _) _) _
    · have : ofSet x = 0 := by unfold ofSet; rw [if_neg hs]
      rw [this]
      by_cases h0 : 0 ≤ x
      · have h8 : ¬ x < 8 := fun h => hs ⟨h0, h⟩
        go_enter Try.func34, Try.ntmps34
        go_wp2
        refine bodyPost_ret (v := .agg #[.int .u64 ((0 : Nat) : Int), .int .i64 v]) (by simp [results, Try.results34, go_sem]) rfl ⟨rfl, ?_⟩
        exact bel_alloc (bel_alloc (Below.refl _ _) _) _
      · go_enter Try.func34, Try.ntmps34
        go_wp2
        refine bodyPost_ret (v := .agg #[.int .u64 ((0 : Nat) : Int), .int .i64 v]) (by simp [results, Try.results34, go_sem]) rfl ⟨rfl, ?_⟩
        exact bel_alloc (bel_alloc (Below.refl _ _) _) _
  · have hv0 : 0 ≤ v := by omega
    rw [show min (max v 0) 3 = (3 : Int) by omega]
    by_cases hs : 0 ≤ x ∧ x < 8
    · obtain ⟨k, rfl⟩ : ∃ k : Nat, x = (k : Int) := ⟨x.toNat, by omega⟩
      have hk : k < 8 := by omega
      rw [ofSet_nat hk]
      obtain ⟨h0, h8⟩ := hs
      go_enter Try.func34, Try.ntmps34
      go_wp2_with fail
      (with_reducible refine (bit_c k _ _ rfl (by omega)).mono ?_)
      rintro e w' ⟨rfl, rfl⟩
      go_wp2
      refine bodyPost_ret (v := .agg #[.int .u64 ((2 ^ k : Nat) : Int), .int .i64 3]) (by simp [results, Try.results34, go_sem]) rfl ⟨rfl, ?_⟩
      exact bel_alloc (bel_alloc (Below.refl _ _) _) _
    · have : ofSet x = 0 := by unfold ofSet; rw [if_neg hs]
      rw [this]
      by_cases h0 : 0 ≤ x
      · have h8 : ¬ x < 8 := fun h => hs ⟨h0, h⟩
        go_enter Try.func34, Try.ntmps34
        go_wp2
        refine bodyPost_ret (v := .agg #[.int .u64 ((0 : Nat) : Int), .int .i64 3]) (by simp [results, Try.results34, go_sem]) rfl ⟨rfl, ?_⟩
        exact bel_alloc (bel_alloc (Below.refl _ _) _) _
      · go_enter Try.func34, Try.ntmps34
        go_wp2
        refine bodyPost_ret (v := .agg #[.int .u64 ((0 : Nat) : Int), .int .i64 3]) (by simp [results, Try.results34, go_sem]) rfl ⟨rfl, ?_⟩
        exact bel_alloc (bel_alloc (Below.refl _ _) _) _
end Go.Proofs.Ytakofbkbbmpfeaa

namespace Go.Proofs.Ytakofbkbbmpfeaa
open Go.RowKit
def mkI (k : Nat) : Value := .int .i64 k
/-- A slice of ints that reads as L (nil reads as none). -/
def NsA (w : World) (A : Option Addr) (L : List Nat) : Prop := ∀ j, ∀ hj : j < L.length, ∃ g cur, A = some ⟨g, 0, none⟩ ∧ w.heap[g]? = some (.cells cur 3 (0, 0)) ∧ w.cell? ⟨g, j, none⟩ = some (.int .i64 (L[j] : Int))
theorem NsA.lt {w : World} {A : Option Addr} {L : List Nat} (h : NsA w A L) (j : Nat) (hj : j < L.length) : ∃ g, A = some ⟨g, 0, none⟩ ∧ g < w.heap.size ∧ w.cell? ⟨g, j, none⟩ = some (.int .i64 (L[j] : Int)) := by
  obtain ⟨g, cur, e, hh, hc⟩ := h j hj
  refine ⟨g, e, ?_, hc⟩
  rcases Nat.lt_or_ge g w.heap.size with c | c
  · exact c
  · rw [Array.getElem?_eq_none c] at hh; cases hh
theorem NsA.below {w w' : World} {A : Option Addr} {L : List Nat} (h : NsA w A L) (hb : Below w.heap.size w w') : NsA w' A L := fun j hj => by
  obtain ⟨g, cur, e, hh, hc⟩ := h j hj
  obtain ⟨g', e', hg, _⟩ := h.lt j hj
  rw [e] at e'
  injection e' with e'
  injection e' with e'
  subst e'
  exact ⟨g, cur, e, by rw [hb.block g hg]; exact hh, by rw [hb.cell hg]; exact hc⟩
theorem NsA.drew {w : World} {A : Option Addr} {L : List Nat} (h : NsA w A L) : NsA w.drew A L := h
theorem NsA.alloc {w : World} {A : Option Addr} {L : List Nat} (h : NsA w A L) (o : Obj) : NsA (w.alloc o) A L := h.below (bel_alloc (Below.refl _ _) o)
theorem ns_own {w : World} {base : Nat} {v : Value} {L : List Nat} (h : w.ownsRow base 3 1 v L.length (L.map mkI)) : ∃ A c, v = .slice A L.length c ∧ NsA w A L := by
  rcases h.2 with ⟨rfl, h0⟩ | ⟨g, cap, cur, rfl, hb, hh, hc, _, _, ht⟩
  · exact ⟨none, 0, by rw [h0], fun j hj => by omega⟩
  · refine ⟨_, cap, rfl, fun j hj => ⟨g, cur, rfl, hh, ?_⟩⟩
    have := h.cells (g := g) rfl j (mkI L[j]) (by simp [hj])
    by_cases hz : j = 0
    · subst hz; simpa [Addr.add, mkI] using this
    · simpa [Addr.add, hz, mkI] using this
/-- A slice of ints was returned that reads as L; what was there stays. -/
def RetNs (w : World) (L : List Nat) (e : Ending) (w' : World) : Prop := ∃ A c, e = .returned (.slice A L.length c) ∧ NsA w' A L ∧ Below w.heap.size w w'
def MemRel (W : World) (n : Nat) (g : Nat) (x : Int) (i v : Value) (wr : World) : Prop :=
  ∃ k : Nat, k ≤ 8 ∧ i = .int .i64 k ∧ wr.ownsRow W.heap.size 3 1 v (memK n k).length ((memK n k).map mkI) ∧ Below W.heap.size W wr ∧ wr.cell? ⟨g, 0, none⟩ = some (.int .u64 x)
theorem bit_yes {n k : Nat} {x : Int} (hn : n < 18446744073709551616) (hx : x = (n : Int)) (hk : k ≤ 8) : (bits .and .u64 x ((2 ^ k : Nat) : Int) == 0) = !(n.testBit k) := by
  rw [hx, and_bits hn (b := 2 ^ k) (by have := pow_all k (by omega); omega) rfl rfl]
  have h := bit_and n k
  cases e : n.testBit k
  · rw [h.2 e]; rfl
  · have : n &&& 2 ^ k ≠ 0 := fun g => by rw [h.1 g] at e; cases e
    simp only [Bool.not_true, beq_eq_false_iff_ne, ne_eq]
    omega
set_option maxRecDepth 100000 in
set_option maxHeartbeats 1600000 in
theorem members_c (n : Nat) (x v : Int) (w : World) (hx : x = (n : Int)) (hn : n < 18446744073709551616) : Calls Try.prog 36 #[.agg #[.int .u64 x, .int .i64 v]] w (RetNs w (memL n)) := by
  subst hx
  obtain ⟨i0, hi, hz0, hz1, hz2⟩ := info_parts info_int
  obtain ⟨W, hW⟩ : ∃ W, w.alloc (.cells #[.int .u64 (n : Int), .int .i64 v] 33) = W := ⟨_, rfl⟩
  have HW := Lib.hid (show Below w.heap.size w W from by rw [← hW]; exact bel_alloc (Below.refl _ _) _)
  have hc0 : W.cell? ⟨w.heap.size, 0, none⟩ = some (.int .u64 (n : Int)) := by rw [← hW]; simp
  have HL := Lib.hid (show w.heap.size < W.heap.size by rw [← hW]; simp)
  go_enter Try.func36, Try.ntmps36
  go_wp2_with fail
  clear hW
  go_loopw [5, 3] (fun i v wr => MemRel W n w.heap.size (n : Int) i v wr) (fun i _ _ => 8 - (intOf i).toNat)
  case atStart => exact ⟨0, by omega, rfl, World.ownsRow_nil _ _ _ _, Below.refl _ _, hc0⟩
  case round =>
    obtain ⟨k, hk, rfl, hown, hB, hc⟩ := hrel
    have HO := Lib.hid hown
    have HB := Lib.hid hB
    clear hown hB hc0
    by_cases hlt : k < 8
    · have hlt' : (k : Int) < 8 := by omega
      have hbit := bit_yes (k := k) hn rfl (by omega)
      cases ht : n.testBit k
      · skip
        have hN : bits .and .u64 (n : Int) ((2 ^ k : Nat) : Int) = 0 := by rw [ht] at hbit; simpa using hbit
        clear hbit
        obtain ⟨p, hp⟩ : ∃ p : Int, ((2 ^ k : Nat) : Int) = p := ⟨_, rfl⟩
        have RB := Lib.hid (fun w' => by have h := bit_c k (k : Int) w' rfl (by omega); rw [hp] at h; exact h)
        rw [hp] at hN
        clear hp
        go_wp2_with fail
        refine wp_region_det (S := fun V => V = wr.drew) (by kernel_rfl) rfl ?_
        refine det_take (v := ?_) (i := 0) (fuel := 5) (by simp; rfl) (by kernel_rfl) (by kernel_rfl) (by kernel_rfl) (Or.inl ⟨by rfl, fun w' hS => Or.inl ⟨w', ?_, hS⟩⟩) ?_
        rotate_left
        · obtain rfl := hS
          go_simp
          all_goals with_reducible rfl
        simp only [Act.put, List.setIfInBounds_toArray, List.set_cons_zero, List.set_cons_succ]
        refine det_take (v := ?_) (i := 1) (fuel := 4) (by simp; rfl) (by kernel_rfl) (by kernel_rfl) (by kernel_rfl) (Or.inl ⟨by rfl, fun w' hS => Or.inl ⟨w', ?_, hS⟩⟩) ?_
        rotate_left
        · obtain rfl := hS
          go_simp
          all_goals with_reducible rfl
        simp only [Act.put, List.setIfInBounds_toArray, List.set_cons_zero, List.set_cons_succ]
        refine det_take (v := ?_) (i := 2) (fuel := 3) (by simp; rfl) (by kernel_rfl) (by kernel_rfl) (by kernel_rfl) (Or.inl ⟨by rfl, fun w' hS => Or.inl ⟨w', ?_, hS⟩⟩) ?_
        rotate_left
        · obtain rfl := hS
          go_simp
          all_goals with_reducible rfl
        simp only [Act.put, List.setIfInBounds_toArray, List.set_cons_zero, List.set_cons_succ]
        refine det_take (v := ?_) (i := 3) (fuel := 2) (by simp; rfl) (by kernel_rfl) (by kernel_rfl) (by kernel_rfl) (Or.inl ⟨by rfl, fun w' hS => Or.inr ⟨51, #[.int .i64 (k : Int)], w', ?_, ?_⟩⟩) ?_
        rotate_left
        · go_simp
          all_goals with_reducible rfl
        · exact (RB.out w').mono fun e w2 h => ⟨by rw [h.1], h.2 ▸ hS⟩
        simp only [Act.put, List.setIfInBounds_toArray, List.set_cons_zero, List.set_cons_succ]
        refine det_take (v := ?_) (i := 4) (fuel := 1) (by simp; rfl) (by kernel_rfl) (by kernel_rfl) (by kernel_rfl) (Or.inl ⟨by rfl, fun w' hS => Or.inl ⟨w', ?_, hS⟩⟩) ?_
        rotate_left
        · obtain rfl := hS
          go_simp
          all_goals with_reducible rfl
        simp only [Act.put, List.setIfInBounds_toArray, List.set_cons_zero, List.set_cons_succ]
        refine det_take (v := ?_) (i := 5) (fuel := 0) (by simp; rfl) (by kernel_rfl) (by kernel_rfl) (by kernel_rfl) (Or.inl ⟨by rfl, fun w' hS => Or.inl ⟨w', ?_, hS⟩⟩) ?_
        rotate_left
        · obtain rfl := hS
          go_simp
          all_goals with_reducible rfl
        simp only [Act.put, List.setIfInBounds_toArray, List.set_cons_zero, List.set_cons_succ]
        refine det_done (by kernel_rfl) (fun V hV => ?_) _
        obtain rfl := hV
        go_wp2
        go_roundw
        case rel => exact ⟨k + 1, by omega, by go_num, by rw [memK_no ht]; exact HO.out.drew, HB.out.drew, hc⟩
        case measure => simp [intOf]; omega
      · skip
        have hN : bits .and .u64 (n : Int) ((2 ^ k : Nat) : Int) ≠ 0 := by rw [ht] at hbit; simpa using hbit
        clear hbit
        obtain ⟨p, hp⟩ : ∃ p : Int, ((2 ^ k : Nat) : Int) = p := ⟨_, rfl⟩
        have RB := Lib.hid (fun w' => by have h := bit_c k (k : Int) w' rfl (by omega); rw [hp] at h; exact h)
        rw [hp] at hN
        clear hp
        go_wp2_with fail
        refine wp_region_det (S := fun V => V = wr.drew) (by kernel_rfl) rfl ?_
        refine det_take (v := ?_) (i := 0) (fuel := 5) (by simp; rfl) (by kernel_rfl) (by kernel_rfl) (by kernel_rfl) (Or.inl ⟨by rfl, fun w' hS => Or.inl ⟨w', ?_, hS⟩⟩) ?_
        rotate_left
        · obtain rfl := hS
          go_simp
          all_goals with_reducible rfl
        simp only [Act.put, List.setIfInBounds_toArray, List.set_cons_zero, List.set_cons_succ]
        refine det_take (v := ?_) (i := 1) (fuel := 4) (by simp; rfl) (by kernel_rfl) (by kernel_rfl) (by kernel_rfl) (Or.inl ⟨by rfl, fun w' hS => Or.inl ⟨w', ?_, hS⟩⟩) ?_
        rotate_left
        · obtain rfl := hS
          go_simp
          all_goals with_reducible rfl
        simp only [Act.put, List.setIfInBounds_toArray, List.set_cons_zero, List.set_cons_succ]
        refine det_take (v := ?_) (i := 2) (fuel := 3) (by simp; rfl) (by kernel_rfl) (by kernel_rfl) (by kernel_rfl) (Or.inl ⟨by rfl, fun w' hS => Or.inl ⟨w', ?_, hS⟩⟩) ?_
        rotate_left
        · obtain rfl := hS
          go_simp
          all_goals with_reducible rfl
        simp only [Act.put, List.setIfInBounds_toArray, List.set_cons_zero, List.set_cons_succ]
        refine det_take (v := ?_) (i := 3) (fuel := 2) (by simp; rfl) (by kernel_rfl) (by kernel_rfl) (by kernel_rfl) (Or.inl ⟨by rfl, fun w' hS => Or.inr ⟨51, #[.int .i64 (k : Int)], w', ?_, ?_⟩⟩) ?_
        rotate_left
        · go_simp
          all_goals with_reducible rfl
        · exact (RB.out w').mono fun e w2 h => ⟨by rw [h.1], h.2 ▸ hS⟩
        simp only [Act.put, List.setIfInBounds_toArray, List.set_cons_zero, List.set_cons_succ]
        refine det_take (v := ?_) (i := 4) (fuel := 1) (by simp; rfl) (by kernel_rfl) (by kernel_rfl) (by kernel_rfl) (Or.inl ⟨by rfl, fun w' hS => Or.inl ⟨w', ?_, hS⟩⟩) ?_
        rotate_left
        · obtain rfl := hS
          go_simp
          all_goals with_reducible rfl
        simp only [Act.put, List.setIfInBounds_toArray, List.set_cons_zero, List.set_cons_succ]
        refine det_take (v := ?_) (i := 5) (fuel := 0) (by simp; rfl) (by kernel_rfl) (by kernel_rfl) (by kernel_rfl) (Or.inl ⟨by rfl, fun w' hS => Or.inl ⟨w', ?_, hS⟩⟩) ?_
        rotate_left
        · obtain rfl := hS
          go_simp
          all_goals with_reducible rfl
        simp only [Act.put, List.setIfInBounds_toArray, List.set_cons_zero, List.set_cons_succ]
        refine det_done (by kernel_rfl) (fun V hV => ?_) _
        obtain rfl := hV
        have hsz := HB.out.size
        have hlen := memK_le n k
        have HO2 := Lib.hid (HO.out.drew)
        have HB2 := Lib.hid (HB.out.drew)
        go_wp2_with (first
          | (at_builtin; refine wpList_append_own _ rfl _ _ 22 rfl W.heap.size 3 i0 (.int .i64 0) 1 8 Try.underlying22 hi hz0 hz1 hz2 rfl (by decide) _ _ _ rfl (HO2.out.alloc _) ⟨wr.heap.size, 0, none⟩ 1 1 [.int .i64 (k : Int)] rfl rfl ?c1 ?c2 ?c3 ?c4 ?c5 ?_)
          | go_in)
        case c1 =>
          intro j u hj
          match j, hj with
          | 0, hj => simp at hj; subst hj; simp [Addr.add]
        case c2 => intro u hu; simp at hu; subst hu; rfl
        case c3 => unfold maxLen; omega
        case c4 => omega
        case c5 => simp; omega
        · intro v' w1 hown' hgrow _
          have hB3 : Below W.heap.size W w1 := (HB2.out.alloc hsz _).grown hgrow (by simp; omega) (own_base HO2.out)
          have hc3 : w1.cell? ⟨w.heap.size, 0, none⟩ = some (.int .u64 (n : Int)) := by
            have hq := hB3.cell (p := ⟨w.heap.size, 0, none⟩) HL.out
            have hq2 := HB.out.cell (p := ⟨w.heap.size, 0, none⟩) HL.out
            rw [hq, ← hq2]
            exact hc
          have hown2 : w1.ownsRow W.heap.size 3 1 v' (memK n (k + 1)).length ((memK n (k + 1)).map mkI) := by
            rw [memK_yes ht, List.length_append, List.length_singleton, List.map_append]
            simpa [mkI] using hown'
          have HO3 := Lib.hid hown2
          have HB3 := Lib.hid hB3
          clear hown' hgrow hown2 hB3 hc
          go_wp2
          go_roundw
          case rel => exact ⟨k + 1, by omega, by go_num, HO3.out, HB3.out, hc3⟩
          case measure => simp [intOf]; omega
    · obtain rfl : k = 8 := by omega
      go_wp2
      go_ret
      obtain ⟨A, c, rfl, hA⟩ := ns_own HO.out
      exact ⟨A, c, rfl, hA, HW.out.trans (HB.out.mono (by have := HW.out.size; omega))⟩
theorem tmod_bit (n k : Nat) : (((n : Int) / 2 ^ k).tmod 2 == 1) = n.testBit k := by
  have e : ((n : Int) / 2 ^ k) = ((n / 2 ^ k : Nat) : Int) := by simp
  have e2 : (((n / 2 ^ k : Nat) : Int)).tmod 2 = ((n / 2 ^ k % 2 : Nat) : Int) := rfl
  rw [e, e2, Nat.testBit_eq_decide_div_mod_eq]
  by_cases h : n / 2 ^ k % 2 = 1
  · rw [h]; rfl
  · have : ¬ (((n / 2 ^ k % 2 : Nat) : Int) = 1) := by omega
    simp only [h, decide_false]
    simpa using this
theorem has_c (n k : Nat) (x y : Int) (w : World) (hx : x = (n : Int)) (hy : y = (k : Int)) (hk : k < 64) : Calls Try.prog 38 #[.int .u64 x, .int .i64 y] w fun e w' => e = .returned (.bool (n.testBit k)) ∧ w = w' := by
  subst hx hy
  have hk' : (k : Int) < 64 := by omega
  have h0 : (0 : Int) ≤ (k : Int) := by omega
  have hb := tmod_bit n k
  go_enter Try.func38, Try.ntmps38
  go_wp2
  go_ret
  exact ⟨by rw [← hb]; simp, rfl⟩
end Go.Proofs.Ytakofbkbbmpfeaa

namespace Go.Proofs.Ytakofbkbbmpfeaa
open Go.RowKit
theorem NsA.grown {w w' : World} {A : Option Addr} {L : List Nat} {B n : Nat} {v : Value} {xs : List Value} (h : NsA w A L) (ho : w.ownsRow B 5 1 v n xs) (hg : w.grownBy w' v.ownBlock) : NsA w' A L := fun j hj => by
  obtain ⟨g, cur, e, hh, hc⟩ := h j hj
  obtain ⟨g', e', hlt, _⟩ := h.lt j hj
  rw [e] at e'
  injection e' with e'
  injection e' with e'
  subst e'
  have hne : some g ≠ v.ownBlock := by
    intro hv
    rcases ho.2 with ⟨rfl, _⟩ | ⟨k, cap, cur', rfl, _, hk, _⟩
    · simp [Value.ownBlock] at hv
    · simp only [Value.ownBlock] at hv
      injection hv with hv
      subst hv
      rw [hh] at hk
      injection hk with hk
      injection hk with _ hk
      exact absurd hk (by decide)
  have hb := hg.block g hlt hne
  exact ⟨g, cur, e, by rw [hb]; exact hh, by rw [World.cell?_of_block (a := ⟨g, j, none⟩) hb]; exact hc⟩
theorem own_lit (w : World) {cs : Array Value} {l : List UInt8} {n : Nat} (h : cs = (Lib.byteCells l).toArray) (hn : l.length = n) (hm : n ≤ 281474976710656) : (w.alloc (.cells cs 5)).ownsRow w.heap.size 5 1 (.slice (some ⟨w.heap.size, 0, none⟩) n n) n (Lib.byteCells l) := by
  subst h
  refine ⟨by rw [Lib.byteCells_length, hn, Nat.mul_one], .inr ⟨_, n, (Lib.byteCells l).toArray, rfl, Nat.le_refl _, heap_alloc_new w _, Nat.le_refl _, by unfold maxLen; omega, ?_, ?_⟩⟩
  · simp only [List.size_toArray, Lib.byteCells_length]
    omega
  · simp only
    rw [List.take_of_length_le (by rw [Lib.byteCells_length]; omega)]
theorem bytes_app (a b : List UInt8) : (⟨a.toArray⟩ ++ ⟨b.toArray⟩ : ByteArray) = ⟨(a ++ b).toArray⟩ := by
  apply ByteArray.ext
  simp
theorem own_some {w : World} {base : Nat} {e : TypeId} {size n : Nat} {v : Value} {xs : List Value} (hn : 0 < n) (h : w.ownsRow base e size v n xs) : v ≠ .slice none 0 0 := by
  rintro rfl
  rcases h.2 with ⟨_, h0⟩ | ⟨_, _, _, h1, _⟩
  · omega
  · cases h1
def txt (d : UInt8) (L : List Nat) (j : Nat) : List UInt8 := d :: 58 :: (L.take j).map ldg
theorem txt_len {d : UInt8} {L : List Nat} {j : Nat} (h : j ≤ L.length) : (txt d L j).length = 2 + j := by
  simp only [txt, List.length_cons, List.length_map, List.length_take]
  omega
theorem txt_next {d : UInt8} {L : List Nat} {j : Nat} (h : j < L.length) : txt d L (j + 1) = txt d L j ++ [ldg L[j]] := by
  simp only [txt, List.take_succ_eq_append_getElem h, List.map_append, List.map_cons, List.map_nil, List.cons_append]
def PrRel (W : World) (d : UInt8) (A : Option Addr) (L : List Nat) (i v : Value) (wr : World) : Prop :=
  ∃ j : Nat, j ≤ L.length ∧ i = .int .i64 j ∧ wr.ownsRow W.heap.size 5 1 v (2 + j) (Lib.byteCells (txt d L j)) ∧ Below W.heap.size W wr ∧ NsA wr A L
theorem bs_1 (x : UInt8) (w : World) (o : Obj) (ho : o = .cells #[.int .u8 (x.toNat : Int)] 5) : Bs (w.alloc o) (w.alloc o).heap.size (some ⟨w.heap.size, 0, none⟩) 1 1 [x] := by
  subst ho
  refine ⟨rfl, Nat.le_refl _, (fun e => by cases e), fun _ => ⟨w.heap.size, 0, rfl, by simp, fun j hj => ?_⟩⟩
  obtain rfl : j = 0 := by simp at hj; omega
  simp
theorem dg_i (k : Nat) (x : Int) (hx : x = (k : Int)) (hk : k ≤ 9) : 48 + x = ((ldg k).toNat : Int) := by
  unfold ldg
  rw [u8_of _ (by omega)]
  omega
def RpRel (W : World) (d : UInt8) (n : Nat) (x : Int) (g : Nat) (s i : Value) (wr : World) : Prop :=
  ∃ k : Nat, k ≤ 8 ∧ i = .int .i64 k ∧ s = .string ⟨(d :: 58 :: (memK n k).map ldg).toArray⟩ ∧ Below W.heap.size W wr ∧ wr.cell? ⟨g, 0, none⟩ = some (.int .u64 x)
theorem rright_c (a : Nat) (x v : Int) (w : World) (hx : x = (a : Int)) : Calls Try.prog 29 #[.agg #[.int .u64 x, .int .i64 v]] w (RetB w (rightB a v)) := by
  have hR : ∀ P Q R : Bool, decide (x < 256) = P → decide (0 ≤ v) = Q → decide (v ≤ 3) = R → rightB a v = (P && Q && R) := by
    rintro P Q R rfl rfl rfl
    unfold rightB
    congr 2
    exact decide_eq_decide.2 (by omega)
  clear hx
  by_cases hs : x < 256
  · have hd : decide (x < 256) = true := decide_eq_true hs
    by_cases h0 : 0 ≤ v
    · have hd0 : decide (0 ≤ v) = true := decide_eq_true h0
      have h2 := hR true true _ hd hd0 rfl
      clear hR
      go_enter Try.func29, Try.ntmps29
      go_wp2
      go_ret
      exact ⟨by first | (rw [h2]; simp; done) | rfl, bel_alloc (Below.refl _ _) _⟩
    · have hd0 : decide (0 ≤ v) = false := decide_eq_false h0
      have h2 := hR true false _ hd hd0 rfl
      clear hR
      go_enter Try.func29, Try.ntmps29
      go_wp2
      go_ret
      exact ⟨by first | (rw [h2]; simp; done) | rfl, bel_alloc (Below.refl _ _) _⟩
  · have hd : decide (x < 256) = false := decide_eq_false hs
    have h2 := hR false _ _ hd rfl rfl
    clear hR
    go_enter Try.func29, Try.ntmps29
    go_wp2
    go_ret
    exact ⟨by first | (rw [h2]; simp; done) | rfl, bel_alloc (Below.refl _ _) _⟩
end Go.Proofs.Ytakofbkbbmpfeaa

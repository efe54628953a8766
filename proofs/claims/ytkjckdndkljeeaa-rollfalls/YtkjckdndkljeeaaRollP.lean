/- Package roll, plainly: a record's bytes, what bytes begin with, what is found, wiped, appended. -/
import Derived.Test.YtkjckdndkljeeaaSlabI
import Derived.Test.YtkjckdndkljeeaaMarkC
import Derived.Test.YtkjckdndkljeeaaPackT
namespace Go.Proofs.Ytkjckdndkljeeaa
open Go.RowKit
/-- A record. -/
structure Rec where
  seq : Int
  body : List UInt8
/-- What is behind a record's mark. -/
def tailB (r : Rec) : List UInt8 := be8 r.seq.toNat ++ enc (zig (r.body.length : Int)) ++ r.body ++ [255]
def headB (n : Nat) : List UInt8 := [UInt8.ofNat (128 + n / 128), UInt8.ofNat (128 + n % 128)]
/-- A record's bytes, where it begins in its region. -/
def frameB (o : Nat) (r : Rec) : List UInt8 := headB (tailB r).length ++ be8 (sumM o (tailB r)) ++ tailB r
/-- How many bytes are behind the mark, as two bytes say it. -/
def lenB : List UInt8 → Nat
  | x :: y :: _ => if x.toNat < 128 ∨ y.toNat < 128 then 0 else (x.toNat - 128) * 128 + (y.toNat - 128)
  | _ => 0
def numB (l : List UInt8) : Nat := l.foldl (fun a c => a * 256 % 18446744073709551616 + c.toNat) 0
def sgnB (u : Nat) : Int := if u < 9223372036854775808 then (u : Int) else (u : Int) - 18446744073709551616
/-- A text with nothing behind it. -/
def txtB (l : List UInt8) : Option (List UInt8) :=
  if firstS l = 0 ∨ firstN l < 0 ∨ (firstS l : Int) + firstN l ≠ (l.length : Int) then none else some (l.drop (firstS l))
/-- The record that bytes begin with, and of how many bytes it is. -/
def wholeB (b : List UInt8) (o : Nat) (last : Int) : Option (Rec × Nat) :=
  if lenB b < 10 ∨ b.length < lenB b + 10 then none
  else if ((b.drop 10).take (lenB b)).getD (lenB b - 1) 0 ≠ 255 ∨ (b.drop 2).take 8 ≠ be8 (sumM o ((b.drop 10).take (lenB b))) then none
  else if sgnB (numB (((b.drop 10).take (lenB b)).take 8)) ≤ last then none
  else match txtB ((((b.drop 10).take (lenB b)).take (lenB b - 1)).drop 8) with
    | none => none
    | some x => some (⟨sgnB (numB (((b.drop 10).take (lenB b)).take 8)), x⟩, 10 + lenB b)
/-- The records from place u on, and where the last one ends. -/
def findF : Nat → List UInt8 → Nat → Int → List Rec × Nat
  | 0, _, u, _ => ([], u)
  | f + 1, b, u, last => match wholeB (b.drop u) u last with
    | none => ([], u)
    | some (r, n) => (r :: (findF f b (u + n) r.seq).1, (findF f b (u + n) r.seq).2)
def findB (b : List UInt8) : List Rec × Nat := findF b.length b 0 0
/-- 0s, from place k of the region on. -/
def wipeF : Nat → Sst → Nat → Int → Nat → Nat → Sst × Bool
  | 0, s, _, _, _, _ => (s, true)
  | f + 1, s, n, a, k, size => if k < size then (if (wrS s n (a + k) (List.replicate (min 32 (size - k)) 0)).2 = true then wipeF f (wrS s n (a + k) (List.replicate (min 32 (size - k)) 0)).1 n a (k + 32) size
      else ((wrS s n (a + k) (List.replicate (min 32 (size - k)) 0)).1, false)) else (s, true)
def blankB (l : List UInt8) : Bool := l.all (· == 0)
def wipeB (s : Sst) (n : Nat) (a : Int) (k size : Nat) (l : List UInt8) : Sst × Bool := if blankB l = true then (s, true) else wipeF 257 s n a k size
/-- The last Seq. -/
def lastB (L : List Rec) : Int := if L.length = 0 then 0 else (L.getD (L.length - 1) ⟨0, []⟩).seq
/-- What an Open leaves, and what it answers: records and where they end, if there is an answer; else an error. -/
def badA (n : Nat) (a z : Int) : Bool := decide (z < 32) || decide (8192 < z) || decide (a < 0) || decide ((n : Int) - z < a)
def opS (s : Sst) (n : Nat) (a z : Int) : Sst × Option (List Rec × Nat) × Int :=
  if badA n a z = true then (s, none, 1)
  else if s.dead = true then (s, none, 6)
  else
    let b := (s.l.drop a.toNat).take z.toNat
    let q := findB b
    let r := wipeB s n a q.2 z.toNat (b.drop q.2)
    if r.2 = true then (r.1, some q, 0) else (r.1, none, 6)
/-- What an Append leaves, and what it answers. -/
def apS (s : Sst) (n : Nat) (a : Int) (z : Nat) (L : List Rec) (u : Nat) (q : Int) (t : List UInt8) : Sst × List Rec × Nat × Int :=
  if q ≤ lastB L ∨ 420 < t.length then (s, L, u, 1)
  else if z < u + (frameB u ⟨q, t⟩).length then (s, L, u, 5)
  else
    let r := wrS s n (a + u) (frameB u ⟨q, t⟩)
    if r.2 = true then (r.1, L ++ [⟨q, t⟩], u + (frameB u ⟨q, t⟩).length, 0) else (r.1, L, u, 6)
theorem be8_len (h : Nat) : (be8 h).length = 8 := rfl
theorem tailB_len (r : Rec) : (tailB r).length = 9 + (enc (zig (r.body.length : Int))).length + r.body.length := by
  unfold tailB
  simp only [List.length_append, be8_len, List.length_cons, List.length_nil]
  omega
theorem frameB_len (o : Nat) (r : Rec) : (frameB o r).length = 10 + (tailB r).length := by
  unfold frameB headB
  simp only [List.length_append, be8_len, List.length_cons, List.length_nil]
theorem frameB_len' (o : Nat) (r : Rec) : 20 + r.body.length ≤ (frameB o r).length ∧ (frameB o r).length ≤ 29 + r.body.length := by
  rw [frameB_len, tailB_len]
  have := enc_len (zig (r.body.length : Int))
  omega
theorem wholeB_size {b : List UInt8} {o : Nat} {last : Int} {r : Rec} {n : Nat} (h : wholeB b o last = some (r, n)) : 20 ≤ n ∧ n ≤ b.length ∧ last < r.seq := by
  unfold wholeB at h
  by_cases h1 : lenB b < 10 ∨ b.length < lenB b + 10
  · rw [if_pos h1] at h
    cases h
  rw [if_neg h1] at h
  split at h
  · cases h
  split at h
  · cases h
  next h3 =>
  split at h
  · cases h
  · cases h
    simp only
    omega
theorem lenB_short {b : List UInt8} (h : b.length < 2) : lenB b = 0 := by
  match b, h with
  | [], _ => rfl
  | [_], _ => rfl
theorem wholeB_short {b : List UInt8} {o : Nat} {last : Int} (h : b.length < 10) : wholeB b o last = none := by
  unfold wholeB
  rw [if_pos (by omega)]
theorem findF_u : ∀ (f : Nat) (b : List UInt8) (u : Nat) (last : Int), u ≤ b.length → u ≤ (findF f b u last).2 ∧ (findF f b u last).2 ≤ b.length
  | 0, b, u, last, h => ⟨Nat.le_refl _, h⟩
  | f + 1, b, u, last, h => by
    unfold findF
    cases hw : wholeB (b.drop u) u last with
    | none => exact ⟨Nat.le_refl _, h⟩
    | some q =>
      obtain ⟨r, n⟩ := q
      have h1 := wholeB_size hw
      rw [List.length_drop] at h1
      have := findF_u f b (u + n) r.seq (by omega)
      simp only
      omega
theorem findB_u (b : List UInt8) : (findB b).2 ≤ b.length := (findF_u _ b 0 0 (by omega)).2
theorem lastB_add (L : List Rec) (r : Rec) : lastB (L ++ [r]) = r.seq := by
  unfold lastB
  rw [if_neg (by simp)]
  simp [List.getD_eq_getElem?_getD]
theorem wipeF_ok {n : Nat} {a : Int} {z : Nat} : ∀ (f : Nat) {s : Sst} {K : Int} {k : Nat}, s.Ok n K → (wipeF f s n a k z).1.Ok n (K + f)
  | 0, s, K, k, h => by
    show s.Ok n (K + (0 : Nat))
    exact h.more (by omega)
  | f + 1, s, K, k, h => by
    unfold wipeF
    have hw := wrS_ok h (a + k) (List.replicate (min 32 (z - k)) 0)
    split
    · split
      · have := wipeF_ok (a := a) (z := z) f (k := k + 32) hw
        exact this.more (by omega)
      · exact hw.more (by omega)
    · exact h.more (by omega)
theorem wipeB_ok {n : Nat} {a : Int} {z : Nat} {s : Sst} {K : Int} {k : Nat} {l : List UInt8} (h : s.Ok n K) : (wipeB s n a k z l).1.Ok n (K + 257) := by
  unfold wipeB
  split
  · exact h.more (by omega)
  · exact wipeF_ok 257 h
theorem opS_ok {n : Nat} {a z : Int} {s : Sst} {K : Int} (h : s.Ok n K) : (opS s n a z).1.Ok n (K + 257) := by
  unfold opS
  split
  · exact h.more (by omega)
  · split
    · exact h.more (by omega)
    · simp only
      split
      · exact wipeB_ok h
      · exact wipeB_ok h
theorem apS_ok {n : Nat} {a : Int} {z : Nat} {L : List Rec} {u : Nat} {q : Int} {t : List UInt8} {s : Sst} {K : Int} (h : s.Ok n K) : (apS s n a z L u q t).1.Ok n (K + 1) := by
  unfold apS
  split
  · exact h.more (by omega)
  · split
    · exact h.more (by omega)
    · simp only
      have := wrS_ok h (a + u) (frameB u ⟨q, t⟩)
      split
      · exact this
      · exact this
end Go.Proofs.Ytkjckdndkljeeaa

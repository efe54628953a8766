/- PackBack: numbers and texts, one behind the other, plainly; what came in, as lists of values. -/
import Derived.Test.YtkjckdndkljeeaaPackM
import Derived.Test.YtkjckdndkljeeaaPackK
namespace Go.Proofs.Ytkjckdndkljeeaa
open Go.RowKit
def txL (ts : List (List UInt8)) (k : Nat) : List UInt8 := if k < ts.length then enc (zig ((ts.getD k []).length : Int)) ++ ts.getD k [] else []
def pcL (xs : List Int) (ts : List (List UInt8)) (k : Nat) : List UInt8 := enc (zig (xs.getD k 0)) ++ txL ts k
def accL (xs : List Int) (ts : List (List UInt8)) : Nat → List UInt8
  | 0 => []
  | k + 1 => accL xs ts k ++ pcL xs ts k
def tlL (xs : List Int) (ts : List (List UInt8)) : Nat → Nat → List UInt8
  | _, 0 => []
  | k, m + 1 => pcL xs ts k ++ tlL xs ts (k + 1) m
def sumT : List (List UInt8) → Nat → Nat
  | _, 0 => 0
  | [], _ + 1 => 0
  | t :: ts, k + 1 => t.length + sumT ts k
theorem sumT_succ : ∀ (ts : List (List UInt8)) (k : Nat), sumT ts (k + 1) = sumT ts k + (ts.getD k []).length
  | [], 0 => by simp [sumT]
  | [], k + 1 => by simp [sumT]
  | t :: ts, 0 => by simp [sumT]
  | t :: ts, k + 1 => by
    have := sumT_succ ts k
    show t.length + sumT ts (k + 1) = t.length + sumT ts k + _
    rw [this]
    simp
    omega
theorem sumT_le : ∀ (ts : List (List UInt8)) (k : Nat), sumT ts k ≤ (ts.map List.length).sum
  | ts, 0 => by simp [sumT]
  | [], k + 1 => by simp [sumT]
  | t :: ts, k + 1 => by
    have := sumT_le ts k
    show t.length + sumT ts k ≤ _
    simp
    exact this
theorem txL_len (ts : List (List UInt8)) (k : Nat) : (txL ts k).length ≤ 10 + (ts.getD k []).length := by
  unfold txL
  split
  · have := (enc_len (zig ((ts.getD k []).length : Int))).2
    rw [List.length_append]
    omega
  · simp
theorem accL_len (xs : List Int) (ts : List (List UInt8)) : ∀ k, (accL xs ts k).length ≤ 20 * k + sumT ts k
  | 0 => by simp [accL]
  | k + 1 => by
    have h1 := accL_len xs ts k
    have h2 := (enc_len (zig (xs.getD k 0))).2
    have h3 := txL_len ts k
    have h4 := sumT_succ ts k
    rw [accL, List.length_append, pcL, List.length_append]
    omega
theorem accL_tl (xs : List Int) (ts : List (List UInt8)) : ∀ m k, accL xs ts (k + m) = accL xs ts k ++ tlL xs ts k m
  | 0, k => by simp [tlL]
  | m + 1, k => by
    rw [show k + (m + 1) = (k + 1) + m by omega, accL_tl xs ts m (k + 1), accL, tlL, List.append_assoc]
theorem accL_all (xs : List Int) (ts : List (List UInt8)) (n : Nat) : accL xs ts n = tlL xs ts 0 n := by
  have := accL_tl xs ts n 0
  simpa [accL] using this
theorem tlL_step (xs : List Int) (ts : List (List UInt8)) {k n : Nat} (h : k < n) : tlL xs ts k (n - k) = pcL xs ts k ++ tlL xs ts (k + 1) (n - (k + 1)) := by
  rw [show n - k = (n - (k + 1)) + 1 by omega, tlL]
theorem tlL_len (xs : List Int) (ts : List (List UInt8)) {k n : Nat} (h : k ≤ n) : (tlL xs ts k (n - k)).length ≤ 20 * n + sumT ts n := by
  have h1 := accL_len xs ts n
  have h2 := accL_tl xs ts (n - k) k
  rw [show k + (n - k) = n by omega] at h2
  rw [h2, List.length_append] at h1
  omega

/-- The slice reads as these values, a cell each, below block B. -/
def Vs (w : World) (B : Nat) (A : Option Addr) (n c : Nat) (vs : List Value) : Prop :=
  vs.length = n ∧ n ≤ c ∧ (0 < n → ∃ g o, A = some ⟨g, o, none⟩ ∧ g < B ∧ ∀ j (h : j < vs.length), w.cell? ⟨g, o + j, none⟩ = some vs[j])
theorem Vs.at_ {w w' : World} {B n c : Nat} {A : Option Addr} {vs : List Value} (h : Vs w B A n c vs) (hb : Below B w w') {k : Nat} (hk : k < n) : ∃ g o, ∃ hl : k < vs.length, A = some ⟨g, o, none⟩ ∧ w'.cell? ⟨g, o + k, none⟩ = some vs[k] := by
  obtain ⟨g, o, e, hg, hc⟩ := h.2.2 (by omega)
  have hl : k < vs.length := by have := h.1; omega
  exact ⟨g, o, hl, e, (hb.cell (p := ⟨g, o + k, none⟩) hg).trans (hc k hl)⟩
def strV (t : List UInt8) : Value := .string ⟨t.toArray⟩
theorem Vs.int {w w' : World} {B n c : Nat} {A : Option Addr} {xs : List Int} (h : Vs w B A n c (xs.map (Value.int .i64))) (hb : Below B w w') {k : Nat} (hk : k < n) : ∃ g o, A = some ⟨g, o, none⟩ ∧ w'.cell? ⟨g, o + k, none⟩ = some (.int .i64 (xs.getD k 0)) := by
  obtain ⟨g, o, hl, e, hc⟩ := h.at_ hb hk
  refine ⟨g, o, e, hc.trans ?_⟩
  rw [List.length_map] at hl
  rw [List.getElem_map, List.getD_eq_getElem?_getD, List.getElem?_eq_getElem hl]
  rfl
theorem Vs.str {w w' : World} {B n c : Nat} {A : Option Addr} {ts : List (List UInt8)} (h : Vs w B A n c (ts.map strV)) (hb : Below B w w') {k : Nat} (hk : k < n) : ∃ g o, A = some ⟨g, o, none⟩ ∧ w'.cell? ⟨g, o + k, none⟩ = some (.string ⟨(ts.getD k []).toArray⟩) := by
  obtain ⟨g, o, hl, e, hc⟩ := h.at_ hb hk
  refine ⟨g, o, e, hc.trans ?_⟩
  rw [List.length_map] at hl
  rw [List.getElem_map, List.getD_eq_getElem?_getD, List.getElem?_eq_getElem hl]
  rfl
theorem readText_enc (A : Option Addr) (n c : Nat) (t R : List UInt8) (w : World) (r : Nat) (hl : Bs w w.heap.size A n c (enc (zig (t.length : Int)) ++ t ++ R)) (hr : R.length = r) (hn : n ≤ 281474976710656) :
    Calls Try.prog 56 #[.slice A n c] w fun e w' => e = .returned (.tuple #[.string ⟨t.toArray⟩, .slice (some ⟨w.heap.size, 0, none⟩) r r, .int .i64 0]) ∧ Own w' w.heap.size w.heap.size r r R ∧ Below w.heap.size w w' := by
  have hlen := hl.len
  rw [List.append_assoc, List.length_append, List.length_append] at hlen
  have hf := first_enc (n := (t.length : Int)) (t ++ R) (by omega) (by omega)
  rw [← List.append_assoc] at hf
  have h1' := (enc_len (zig (t.length : Int))).1
  refine (readText_yes A n c _ w t.length _ hl hn hf.1 hf.2 (by omega) (by omega)).mono fun e w' ⟨he, ho, hb⟩ => ?_
  have e1 : ((enc (zig (t.length : Int)) ++ t ++ R).drop (enc (zig (t.length : Int))).length).take t.length = t := by
    rw [List.append_assoc, List.drop_left, List.take_left]
  have e2 : (enc (zig (t.length : Int)) ++ t ++ R).drop ((enc (zig (t.length : Int))).length + t.length) = R := by
    rw [← List.length_append, List.drop_left]
  have e3 : n - ((enc (zig (t.length : Int))).length + t.length) = r := by omega
  rw [e1, e3] at he
  rw [e2, e3] at ho
  exact ⟨he, ho, hb⟩
end Go.Proofs.Ytkjckdndkljeeaa

/- Numbers as bytes, plainly: no Go text in sight. -/
/- Slices of bytes that read as a list; rows of bytes of the call's own. -/
/- Slices of bytes: what statements do with them, whatever the package. -/
import Derived.Laws.BitsAllLaws
import Derived.Laws.Bits64
import Derived.Test.YtakofbkbbmpfeaaProg
import Derived.Test.YtakofbkbbmpfeaaChecked
import Derived.WalkKit
import Derived.Lib.Hide
import Derived.Lib.AppendStr
import Derived.Lib.UnsafeStr
import Derived.Laws.IdiomStrings
import Derived.Deep.Draws
import Derived.Test.YtakofbkbbmpfeaaCoreA
import Derived.PlainAid
import Derived.ProofKit
import Derived.Laws.AppendOwnNone
import Derived.Laws.OwnMore
namespace Go.Proofs.Ytakofbkbbmpfeaa

/-- A number in groups of seven bits, the lowest first; at most f of them say that another one follows. -/
def encF : Nat → Nat → List UInt8
  | 0, u => [UInt8.ofNat u]
  | f + 1, u => if u < 128 then [UInt8.ofNat u] else UInt8.ofNat (u % 128 + 128) :: encF f (u / 128)
def enc (u : Nat) : List UInt8 := encF 9 u
/-- What bytes begin with: the number, and of how many bytes it is. -/
def rd : Nat → Nat → List UInt8 → Option (Nat × Nat)
  | _, _, [] => none
  | k, a, c :: l => if k = 9 ∧ 1 < c.toNat then none else if c.toNat < 128 then (if c.toNat = 0 ∧ 0 < k then none else some (a + c.toNat % 128 * 128 ^ k, k + 1)) else rd (k + 1) (a + c.toNat % 128 * 128 ^ k) l
def zig (n : Int) : Nat := if n < 0 then (-2 * n - 1).toNat else (2 * n).toNat
def zag (u : Nat) : Int := if u % 2 = 1 then -((u / 2 : Nat) : Int) - 1 else ((u / 2 : Nat) : Int)

theorem zag_zig (n : Int) : zag (zig n) = n := by
  unfold zag zig
  split <;> split <;> omega
theorem zig_zag (u : Nat) : zig (zag u) = u := by
  unfold zag zig
  split <;> split <;> omega
theorem zig_lt {n : Int} (h0 : -9223372036854775808 ≤ n) (h1 : n ≤ 9223372036854775807) : zig n < 18446744073709551616 := by
  unfold zig
  split <;> omega
theorem zag_le {u : Nat} (h : u < 18446744073709551616) : -9223372036854775808 ≤ zag u ∧ zag u ≤ 9223372036854775807 := by
  unfold zag
  split <;> omega
theorem u8_of (u : Nat) (h : u < 256) : (UInt8.ofNat u).toNat = u := by
  rw [UInt8.toNat_ofNat']
  exact Nat.mod_eq_of_lt h
theorem u8_back (c : UInt8) : UInt8.ofNat c.toNat = c := by simp
theorem u8_lt (c : UInt8) : c.toNat < 256 := UInt8.toNat_lt c
theorem encF_lt (f u : Nat) (h : u < 128) : encF f u = [UInt8.ofNat u] := by
  cases f with
  | zero => rfl
  | succ f => simp [encF, h]
theorem encF_ge (f u : Nat) (h : ¬ u < 128) : encF (f + 1) u = UInt8.ofNat (u % 128 + 128) :: encF f (u / 128) := by simp [encF, h]
theorem pow9 : (128 : Nat) ^ 9 = 9223372036854775808 := by decide
theorem pow_le9 {k : Nat} (h : k ≤ 8) : 128 * 128 ^ k ≤ 9223372036854775808 := by
  have := Nat.pow_le_pow_right (n := 128) (by decide) (show k + 1 ≤ 9 by omega)
  rw [pow9, Nat.pow_succ] at this
  omega
theorem pow_pos' (k : Nat) : 0 < 128 ^ k := Nat.pow_pos (by decide)
theorem small9 {u : Nat} (h : u * 128 ^ 9 < 18446744073709551616) : u < 2 := by rw [pow9] at h; omega
theorem step_mul (u k : Nat) : u % 128 * 128 ^ k + u / 128 * 128 ^ (k + 1) = u * 128 ^ k := by
  have e : u / 128 * 128 ^ (k + 1) = (u / 128 * 128) * 128 ^ k := by rw [Nat.pow_succ, Nat.mul_assoc, Nat.mul_comm (128 ^ k) 128]
  rw [e, ← Nat.add_mul]
  congr 1
  omega
theorem step_lt {u k : Nat} (h : u * 128 ^ k < 18446744073709551616) : u / 128 * 128 ^ (k + 1) < 18446744073709551616 := by
  have := step_mul u k
  omega
theorem rd_one {u k a : Nat} (t : List UInt8) (hu : u < 128) (h : u * 128 ^ k < 18446744073709551616) (h0 : 0 < k → 0 < u) : rd k a (UInt8.ofNat u :: t) = some (a + u * 128 ^ k, k + 1) := by
  have e : (UInt8.ofNat u).toNat = u := u8_of u (by omega)
  have h9 : ¬ (k = 9 ∧ 1 < u) := by
    rintro ⟨rfl, h1⟩
    have := small9 h
    omega
  have hz : ¬ (u = 0 ∧ 0 < k) := by
    rintro ⟨h1, h2⟩
    have := h0 h2
    omega
  simp only [rd, e, if_neg h9, if_pos hu, if_neg hz, Nat.mod_eq_of_lt hu]
theorem rd_more {c : UInt8} {k a : Nat} (t : List UInt8) (hc : 128 ≤ c.toNat) (hk : k ≠ 9) : rd k a (c :: t) = rd (k + 1) (a + c.toNat % 128 * 128 ^ k) t := by
  have h9 : ¬ (k = 9 ∧ 1 < c.toNat) := fun h => hk h.1
  simp only [rd, if_neg h9, if_neg (show ¬ c.toNat < 128 by omega)]
/-- What is packed is read the same, whatever is behind it. -/
theorem rd_enc : ∀ (f u k a : Nat) (t : List UInt8), f + k = 9 → u * 128 ^ k < 18446744073709551616 → (0 < k → 0 < u) → rd k a (encF f u ++ t) = some (a + u * 128 ^ k, k + (encF f u).length)
  | 0, u, k, a, t, hf, h, h0 => by
    obtain rfl : k = 9 := by omega
    have := small9 h
    exact rd_one t (by omega) h h0
  | f + 1, u, k, a, t, hf, h, h0 => by
    by_cases hu : u < 128
    · rw [encF_lt _ _ hu]
      exact rd_one t hu h h0
    · have e : (UInt8.ofNat (u % 128 + 128)).toNat = u % 128 + 128 := u8_of _ (by omega)
      rw [encF_ge _ _ hu, List.cons_append, rd_more _ (by omega) (by omega), rd_enc f (u / 128) (k + 1) _ t (by omega) (step_lt h) (fun _ => by omega), e]
      have e2 : (u % 128 + 128) % 128 = u % 128 := by omega
      have := step_mul u k
      rw [e2, Nat.add_assoc, this, List.length_cons]
      congr 2
      omega
theorem rd_enc' {u : Nat} (t : List UInt8) (h : u < 18446744073709551616) : rd 0 0 (enc u ++ t) = some (u, (enc u).length) := by
  have := rd_enc 9 u 0 0 t rfl (by simpa using h) (fun h => absurd h (by omega))
  simpa [enc] using this
theorem bound8 {x u : Nat} (hx : x < 128) (hu : u < 2) : x * 128 ^ 8 + u * 128 ^ (8 + 1) < 18446744073709551616 := by
  have e8 : (128 : Nat) ^ 8 = 72057594037927936 := by decide
  have e9 : (128 : Nat) ^ (8 + 1) = 9223372036854775808 := by decide
  rw [e8, e9]
  omega
/-- Bytes that are read as a number are the ones that it packs to. -/
theorem rd_sound : ∀ (l : List UInt8) (k a v s : Nat), k ≤ 9 → rd k a l = some (v, s) →
    ∃ u, k < s ∧ s ≤ k + l.length ∧ l.take (s - k) = encF (9 - k) u ∧ v = a + u * 128 ^ k ∧ u * 128 ^ k < 18446744073709551616 ∧ (0 < k → 0 < u)
  | [], k, a, v, s, _, h => by simp [rd] at h
  | c :: l, k, a, v, s, hk, h => by
    have hc := u8_lt c
    by_cases h9 : k = 9 ∧ 1 < c.toNat
    · simp [rd, h9] at h
    · by_cases h7 : c.toNat < 128
      · by_cases hz : c.toNat = 0 ∧ 0 < k
        · simp [rd, hz] at h
        · simp only [rd, if_neg h9, if_pos h7, if_neg hz, Option.some.injEq, Prod.mk.injEq] at h
          obtain ⟨hv, hs⟩ := h
          refine ⟨c.toNat, by omega, by simp; omega, ?_, by rw [← hv, Nat.mod_eq_of_lt h7], ?_, fun h0 => by omega⟩
          · rw [show s - k = 1 by omega, encF_lt _ _ h7, u8_back]
            simp
          · rcases Nat.lt_or_ge k 9 with h | h
            · have := pow_le9 (show k ≤ 8 by omega)
              have h2 := Nat.mul_le_mul_right (128 ^ k) (show c.toNat ≤ 128 by omega)
              omega
            · obtain rfl : k = 9 := by omega
              rw [pow9]
              omega
      · have hk9 : k ≠ 9 := fun e => h9 ⟨e, by omega⟩
        rw [rd_more _ (by omega) hk9] at h
        obtain ⟨u, hs1, hs2, ht, hv, hb, h0⟩ := rd_sound l (k + 1) _ v s (by omega) h
        have hu := h0 (by omega)
        have em : (c.toNat % 128 + 128 * u) % 128 = c.toNat % 128 := by omega
        have ed : (c.toNat % 128 + 128 * u) / 128 = u := by omega
        have em' := step_mul (c.toNat % 128 + 128 * u) k
        rw [em, ed] at em'
        refine ⟨c.toNat % 128 + 128 * u, by omega, by simp; omega, ?_, by omega, ?_, fun _ => by omega⟩
        · rw [show 9 - k = (9 - (k + 1)) + 1 by omega, encF_ge _ _ (by omega), em, ed, ← ht, show s - k = (s - (k + 1)) + 1 by omega, List.take_succ_cons]
          congr 1
          rw [show c.toNat % 128 + 128 = c.toNat by omega, u8_back]
        · rw [← em']
          have h8 := pow_le9 (show k ≤ 8 by omega)
          rcases Nat.lt_or_ge k 8 with h | h
          · have h7' := Nat.pow_le_pow_right (n := 128) (by decide) (show k + 1 ≤ 8 by omega)
            have e8 : (128 : Nat) ^ 8 = 72057594037927936 := by decide
            have hq : u * 128 ^ (k + 1) < 18446744073709551616 := hb
            have ep : (128 : Nat) ^ (k + 1) = 128 * 128 ^ k := by rw [Nat.pow_succ, Nat.mul_comm]
            -- the multiple of a power that is below a multiple of it stays below with less than one power more
            have e64 : (18446744073709551616 : Nat) = (18446744073709551616 / 128 ^ (k + 1)) * 128 ^ (k + 1) := by
              have : (18446744073709551616 : Nat) % 128 ^ (k + 1) = 0 := by
                rcases (show k = 0 ∨ k = 1 ∨ k = 2 ∨ k = 3 ∨ k = 4 ∨ k = 5 ∨ k = 6 ∨ k = 7 by omega) with rfl | rfl | rfl | rfl | rfl | rfl | rfl | rfl <;> decide
              have := Nat.div_add_mod 18446744073709551616 (128 ^ (k + 1))
              rw [Nat.mul_comm]
              omega
            have hlt : u < 18446744073709551616 / 128 ^ (k + 1) := by
              rcases Nat.lt_or_ge u (18446744073709551616 / 128 ^ (k + 1)) with h | h
              · exact h
              · have := Nat.mul_le_mul_right (128 ^ (k + 1)) h
                omega
            have h1 := Nat.mul_le_mul_right (128 ^ (k + 1)) (show u + 1 ≤ 18446744073709551616 / 128 ^ (k + 1) by omega)
            rw [← e64, Nat.add_mul, Nat.one_mul] at h1
            have h2 := Nat.mul_lt_mul_of_pos_right (show c.toNat % 128 < 128 by omega) (pow_pos' k)
            omega
          · obtain rfl : k = 8 := by omega
            exact bound8 (Nat.mod_lt _ (by decide)) (small9 hb)
theorem rd_sound' {l : List UInt8} {v s : Nat} (h : rd 0 0 l = some (v, s)) : 0 < s ∧ s ≤ l.length ∧ l.take s = enc v ∧ v < 18446744073709551616 := by
  obtain ⟨u, h1, h2, h3, h4, h5, _⟩ := rd_sound l 0 0 v s (by omega) h
  have e : v = u := by simpa using h4
  subst e
  exact ⟨h1, by simpa using h2, by simpa [enc] using h3, by simpa using h5⟩
/-- A number's bytes that are cut are none. -/
theorem rd_cut : ∀ (f u k a n : Nat), f + k = 9 → n < (encF f u).length → rd k a ((encF f u).take n) = none
  | 0, u, k, a, n, _, h => by
    obtain rfl : n = 0 := by simp [encF] at h; omega
    rfl
  | f + 1, u, k, a, 0, _, _ => by rfl
  | f + 1, u, k, a, n + 1, hf, h => by
    by_cases hu : u < 128
    · rw [encF_lt _ _ hu] at h
      simp at h
    · have e : (UInt8.ofNat (u % 128 + 128)).toNat = u % 128 + 128 := u8_of _ (by omega)
      rw [encF_ge _ _ hu] at h ⊢
      rw [List.take_succ_cons, rd_more _ (by omega) (by omega)]
      exact rd_cut f (u / 128) (k + 1) _ n (by omega) (by simpa using h)
theorem encF_mono : ∀ (f u v : Nat), u ≤ v → (encF f u).length ≤ (encF f v).length
  | 0, _, _, _ => Nat.le_refl _
  | f + 1, u, v, h => by
    by_cases hu : u < 128
    · rw [encF_lt _ _ hu]
      by_cases hv : v < 128
      · rw [encF_lt _ _ hv]; exact Nat.le_refl _
      · rw [encF_ge _ _ hv]; simp
    · rw [encF_ge _ _ hu, encF_ge _ _ (show ¬ v < 128 by omega)]
      have := encF_mono f (u / 128) (v / 128) (Nat.div_le_div_right h)
      simpa using this
theorem encF_len : ∀ (f u : Nat), 1 ≤ (encF f u).length ∧ (encF f u).length ≤ f + 1
  | 0, _ => by simp [encF]
  | f + 1, u => by
    by_cases hu : u < 128
    · rw [encF_lt _ _ hu]; simp
    · rw [encF_ge _ _ hu]
      have := encF_len f (u / 128)
      simp
      omega
theorem enc_len (u : Nat) : 1 ≤ (enc u).length ∧ (enc u).length ≤ 10 := encF_len 9 u
theorem enc_inj {u v : Nat} (hu : u < 18446744073709551616) (hv : v < 18446744073709551616) (h : enc u = enc v) : u = v := by
  have h1 := rd_enc' [] hu
  have h2 := rd_enc' [] hv
  rw [h] at h1
  rw [h1] at h2
  have := Option.some.inj h2
  simpa using congrArg Prod.fst this
/-- What a number is read as: it, and of how many bytes it is; of 0, if there is none. -/
def firstN (l : List UInt8) : Int := match rd 0 0 l with | none => 0 | some x => zag x.1
def firstS (l : List UInt8) : Nat := match rd 0 0 l with | none => 0 | some x => x.2
theorem firstS_le (l : List UInt8) : firstS l ≤ l.length := by
  unfold firstS
  cases h : rd 0 0 l with
  | none => exact Nat.zero_le _
  | some x => exact (rd_sound' (v := x.1) (s := x.2) h).2.1
theorem firstN_le (l : List UInt8) : -9223372036854775808 ≤ firstN l ∧ firstN l ≤ 9223372036854775807 := by
  unfold firstN
  cases h : rd 0 0 l with
  | none => simp
  | some x => exact zag_le (rd_sound' (v := x.1) (s := x.2) h).2.2.2
theorem first_enc {n : Int} (t : List UInt8) (h0 : -9223372036854775808 ≤ n) (h1 : n ≤ 9223372036854775807) : firstN (enc (zig n) ++ t) = n ∧ firstS (enc (zig n) ++ t) = (enc (zig n)).length := by
  unfold firstN firstS
  rw [rd_enc' t (zig_lt h0 h1)]
  exact ⟨zag_zig n, rfl⟩
theorem first_cut (n : Int) {m : Nat} (h : m < (enc (zig n)).length) : firstS ((enc (zig n)).take m) = 0 := by
  unfold firstS
  unfold enc at h ⊢
  rw [rd_cut 9 _ 0 0 m rfl h]
theorem first_back {l : List UInt8} (h : firstS l ≠ 0) : enc (zig (firstN l)) ++ l.drop (firstS l) = l := by
  unfold firstN firstS at *
  cases e : rd 0 0 l with
  | none => rw [e] at h; exact absurd rfl h
  | some x =>
    obtain ⟨_, _, h3, _⟩ := rd_sound' (v := x.1) (s := x.2) e
    simp only
    rw [zig_zag, ← h3, List.take_append_drop]
end Go.Proofs.Ytakofbkbbmpfeaa

namespace Go.Proofs.Ytakofbkbbmpfeaa
open Go.RowKit

/-- The slice with that address, length and room reads as the bytes l, below block B. -/
def Bs (w : World) (B : Nat) (A : Option Addr) (n c : Nat) (l : List UInt8) : Prop :=
  l.length = n ∧ n ≤ c ∧ (A = none → c = 0) ∧ (0 < n → ∃ g o, A = some ⟨g, o, none⟩ ∧ g < B ∧ ∀ j (h : j < l.length), w.cell? ⟨g, o + j, none⟩ = some (.int .u8 (l[j].toNat : Int)))

section
variable {w w' : World} {B B' n c : Nat} {A : Option Addr} {l : List UInt8}
theorem Bs.nil_ (w : World) (B : Nat) : Bs w B none 0 0 [] := ⟨rfl, Nat.le_refl _, fun _ => rfl, fun h => absurd h (by omega)⟩
theorem Bs.len (h : Bs w B A n c l) : l.length = n := h.1
theorem Bs.room (h : Bs w B A n c l) : n ≤ c := h.2.1
theorem Bs.at_ (h : Bs w B A n c l) {k : Nat} (hk : k < n) : ∃ g o, ∃ hl : k < l.length, A = some ⟨g, o, none⟩ ∧ g < B ∧ w.cell? ⟨g, o + k, none⟩ = some (.int .u8 (l[k].toNat : Int)) := by
  obtain ⟨g, o, e, hg, hc⟩ := h.2.2.2 (by omega)
  have hl : k < l.length := by have := h.1; omega
  exact ⟨g, o, hl, e, hg, hc k hl⟩
theorem Bs.keep (h : Bs w B A n c l) (hk : ∀ p : Addr, p.block < B → w'.cell? p = w.cell? p) : Bs w' B A n c l :=
  ⟨h.1, h.2.1, h.2.2.1, fun hn => by
    obtain ⟨g, o, e, hg, hc⟩ := h.2.2.2 hn
    exact ⟨g, o, e, hg, fun j hj => (hk ⟨g, o + j, none⟩ hg).trans (hc j hj)⟩⟩
theorem Bs.below (h : Bs w B A n c l) (hb : Below B w w') : Bs w' B A n c l := h.keep fun _ hp => hb.cell hp
theorem Bs.drewN (h : Bs w B A n c l) (k : Nat) : Bs (w.drewN k) B A n c l := h
theorem Bs.alloc (h : Bs w B A n c l) (hB : B ≤ w.heap.size) (o : Obj) : Bs (w.alloc o) B A n c l := h.keep fun p hp => World.cell?_alloc_lt w o p (by omega)
theorem Bs.more (h : Bs w B A n c l) (hB : B ≤ B') : Bs w B' A n c l :=
  ⟨h.1, h.2.1, h.2.2.1, fun hn => by
    obtain ⟨g, o, e, hg, hc⟩ := h.2.2.2 hn
    exact ⟨g, o, e, by omega, hc⟩⟩
/-- What stands from place k on, as the model cuts it. -/
theorem Bs.cut (h : Bs w B A n c l) {k : Nat} (hk : k ≤ n) : Bs w B (if c = k then A else A.map (·.add k)) (n - k) (c - k) (l.drop k) := by
  refine ⟨by rw [List.length_drop, h.1], by have := h.2.1; omega, fun e => ?_, fun hn => ?_⟩
  · have := h.2.2.1 (by cases A with | none => rfl | some a => (split at e <;> simp at e))
    omega
  obtain ⟨g, o, rfl, hg, hc⟩ := h.2.2.2 (by omega)
  have := h.2.1
  rw [if_neg (by omega)]
  refine ⟨g, o + k, by simp [Addr.add_lit], hg, fun j hj => ?_⟩
  have hj' : k + j < l.length := by rw [List.length_drop] at hj; omega
  rw [Nat.add_assoc, hc (k + j) hj', List.getElem_drop]
/-- The first k of them. -/
theorem Bs.head (h : Bs w B A n c l) {k : Nat} (hk : k ≤ n) : Bs w B A k c (l.take k) := by
  refine ⟨by rw [List.length_take, h.1]; omega, by have := h.2.1; omega, h.2.2.1, fun hn => ?_⟩
  obtain ⟨g, o, rfl, hg, hc⟩ := h.2.2.2 (by omega)
  refine ⟨g, o, rfl, hg, fun j hj => ?_⟩
  have hj' : j < l.length := by rw [List.length_take] at hj; omega
  rw [hc j hj', List.getElem_take]
end

/-- A row of bytes of the call's own: it lies at the head of block g, from B on. -/
def Own (w : World) (B g n c : Nat) (l : List UInt8) : Prop := l.length = n ∧ w.ownsRow B 5 1 (.slice (some ⟨g, 0, none⟩) n c) n (Lib.byteCells l)

theorem byteCells_get (l : List UInt8) (j : Nat) (h : j < l.length) : (Lib.byteCells l)[j]? = some (.int .u8 (l[j].toNat : Int)) := by
  unfold Lib.byteCells
  rw [List.getElem?_map, List.getElem?_eq_getElem h]
  rfl
section
variable {w w' : World} {B g n c : Nat} {l : List UInt8}
theorem Own.len (h : Own w B g n c l) : l.length = n := h.1
theorem Own.ge (h : Own w B g n c l) : B ≤ g := (h.2.lt g rfl).1
theorem Own.lt (h : Own w B g n c l) : g < w.heap.size := (h.2.lt g rfl).2
theorem Own.room (h : Own w B g n c l) : n ≤ c := by
  rcases h.2.2 with ⟨e, _⟩ | ⟨g', c', cur, e, _, _, hn, _⟩
  · cases e
  · injection e with _ _ e
    omega
theorem Own.cmax (h : Own w B g n c l) : c ≤ maxLen := by
  rcases h.2.2 with ⟨e, _⟩ | ⟨g', c', cur, e, _, _, _, hm, _⟩
  · cases e
  · injection e with _ _ e
    omega
theorem Own.bs (h : Own w B g n c l) : Bs w w.heap.size (some ⟨g, 0, none⟩) n c l := by
  refine ⟨h.1, h.room, (fun e => by cases e), fun _ => ⟨g, 0, rfl, h.lt, fun j hj => ?_⟩⟩
  have := h.2.cells (g := g) rfl j _ (byteCells_get l j hj)
  rwa [Addr.add_lit] at this
theorem Own.below (h : Own w B g n c l) {C : Nat} (hb : Below C w w') (hC : g < C) : Own w' B g n c l := by
  refine ⟨h.1, h.2.1, ?_⟩
  rcases h.2.2 with ⟨e, _⟩ | ⟨g', c', cur, e, hB, hg, rest⟩
  · cases e
  · have hgg : g = g' := by injection e with e; injection e with e; injection e
    subst hgg
    exact .inr ⟨g, c', cur, e, hB, (hb.block g hC).trans hg, rest⟩
end
/-- What an append takes off it. -/
theorem Bs.news {w : World} {B n c : Nat} {A : Option Addr} {l : List UInt8} (h : Bs w B A n c l) : ∀ ad, A = some ad → ∀ j u, (Lib.byteCells l)[j]? = some u → w.cell? (ad.add j) = some u := by
  intro ad e j u hu
  have hj : j < l.length := by
    have := (List.getElem?_eq_some_iff.1 hu).1
    rwa [Lib.byteCells_length] at this
  obtain ⟨g, o, e', _, hc⟩ := h.2.2.2 (by have := h.1; omega)
  rw [e'] at e
  cases e
  rw [byteCells_get l j hj] at hu
  cases hu
  rw [Addr.add_lit]
  exact hc j hj
theorem byteCells_ones (l : List UInt8) : ∀ u ∈ Lib.byteCells l, u.oneCell' = true := by
  intro u hu
  unfold Lib.byteCells at hu
  obtain ⟨_, _, rfl⟩ := List.mem_map.1 hu
  rfl
theorem Try.i8 : (Try.prog.info? 5).map (fun i => (i.zero, i.size, i.bytes)) = some (some (.int .u8 0), 1, 1) := by kernel_rfl
end Go.Proofs.Ytakofbkbbmpfeaa

namespace Go.Proofs.Ytakofbkbbmpfeaa
open Go.RowKit
theorem Try.u8_is : Try.prog.underlying 5 = some (.int .u8) := Try.underlying5
theorem bs_in {w : World} {a : Addr} {len cap : Nat} {zs : List Int} (hl : len ≤ cap) (hz : zs.length = cap)
    (hc : ∀ i, i < zs.length → w.cell? (a.add i) = some (.int .u8 (zs.getD i 0))) (hw : ∀ n ∈ zs, (Lit.int .u8 n).wf = true) : ∃ l, Bs w w.heap.size (some a) len cap l := by
  have hlen : ((zs.take len).map fun z => UInt8.ofNat z.toNat).length = len := by rw [List.length_map, List.length_take]; omega
  refine ⟨(zs.take len).map fun z => UInt8.ofNat z.toNat, hlen, hl, (fun e => by cases e), fun h0 => ?_⟩
  obtain ⟨b, off, spot⟩ := a
  have h1 := hc 0 (by omega)
  have hspot : spot = none := by simpa [Addr.add] using World.cell?_spot h1
  subst hspot
  refine ⟨b, off, rfl, ?_, fun j hj => ?_⟩
  · have := World.block_lt_of_cell? w _ h1
    simpa [Addr.add_lit] using this
  · have hj' : j < zs.length := by rw [hlen] at hj; omega
    have h2 := hc j hj'
    rw [Addr.add_lit] at h2
    rw [h2, List.getD_eq_getElem?_getD, List.getElem?_eq_getElem hj']
    have h3 := hw _ (List.getElem_mem hj')
    simp only [List.getElem_map, List.getElem_take, Option.getD_some]
    simp [Lit.wf, IntKind.min, IntKind.max, IntKind.signed, IntKind.bits] at h3
    rw [u8_of _ (by omega)]
    congr 2
    omega
theorem i64_in {n : Int} (h : (Lit.int .i64 n).wf = true) : -9223372036854775808 ≤ n ∧ n ≤ 9223372036854775807 := by
  simp [Lit.wf, IntKind.min, IntKind.max, IntKind.signed, IntKind.bits] at h
  omega
theorem bel_tr {w w1 w2 : World} (h : Below w.heap.size w w1) (h' : Below w1.heap.size w1 w2) : Below w.heap.size w w2 := h.trans (h'.mono h.size)
theorem Own.base {w : World} {B B' g n c : Nat} {l : List UInt8} (h : Own w B g n c l) (hB : B' ≤ B) : Own w B' g n c l := by
  refine ⟨h.1, h.2.1, ?_⟩
  rcases h.2.2 with h' | ⟨g', c', cur, h1, h2, h3⟩
  · exact .inl h'
  · exact .inr ⟨g', c', cur, h1, by omega, h3⟩
theorem own_ne {w : World} {B n : Nat} {v : Value} {l : List UInt8} (h : w.ownsRow B 5 1 v n (Lib.byteCells l)) (h0 : v ≠ .slice none 0 0) : ∃ g c, v = .slice (some ⟨g, 0, none⟩) n c ∧ Own w B g n c l := by
  have hl : l.length = n := by have := h.1; rw [Lib.byteCells_length] at this; omega
  rcases h.2 with ⟨rfl, e⟩ | ⟨g, c, cur, rfl, rest⟩
  · exact absurd rfl h0
  · exact ⟨g, c, rfl, hl, h⟩
theorem own_zero (w : World) : (w.alloc (.cells #[] 5)).ownsRow w.heap.size 5 1 (.slice (some ⟨w.heap.size, 0, none⟩) 0 0) 0 [] :=
  World.ownsRow_made w #[] 0 (Nat.le_refl _) (by unfold maxLen; omega) rfl
def Cp (w : World) (n : Nat) (l : List UInt8) (e : Ending) (w' : World) : Prop := ∃ g c, e = .returned (.slice (some ⟨g, 0, none⟩) n c) ∧ Own w' w.heap.size g n c l ∧ Below w.heap.size w w'
theorem Own.block {w : World} {B g n c : Nat} {l : List UInt8} (h : Own w B g n c l) : ∃ cur : Array Value, w.heap[g]? = some (.cells cur 5 (0, 0)) ∧ n ≤ cur.size := by
  rcases h.2.2 with ⟨e, _⟩ | ⟨g', c', cur, e, _, hg, hnc, _, hs, _⟩
  · cases e
  · have hgg : g = g' := by injection e with e; injection e with e; injection e
    subst hgg
    exact ⟨cur, hg, by omega⟩
theorem Own.frozen {w : World} {B g n c : Nat} {l : List UInt8} (h : Own w B g n c l) (i : Nat) : w.frozen? ⟨g, i, none⟩ = false := by
  obtain ⟨cur, hg, _⟩ := h.block
  simp [World.frozen?, hg]
theorem Own.bs_set {w : World} {B g n c : Nat} {l : List UInt8} (h : Own w B g n c l) {k : Nat} (hk : k < n) (z : Int) (h0 : 0 ≤ z) (h1 : z < 256) :
    Bs (w.setCell ⟨g, k, none⟩ (.int .u8 z)) w.heap.size (some ⟨g, 0, none⟩) n c (l.set k (UInt8.ofNat z.toNat)) := by
  have hb := h.bs
  refine ⟨by rw [List.length_set]; exact hb.1, hb.2.1, (fun e => by cases e), fun _ => ⟨g, 0, rfl, h.lt, fun j hj => ?_⟩⟩
  have hjl : j < l.length := by rw [List.length_set] at hj; exact hj
  obtain ⟨g', o', e, _, hc⟩ := hb.2.2.2 (by have := hb.1; omega)
  cases e
  by_cases hjk : j = k
  · subst hjk
    have h2 := hc j hjl
    rw [Nat.zero_add] at h2 ⊢
    rw [World.cell?_setCell_same _ _ _ h2, List.getElem_set_self, u8_of _ (by omega)]
    congr 2
    omega
  · rw [World.cell?_setCell_other w ⟨g, k, none⟩ ⟨g, 0 + j, none⟩ _ (by intro e; injection e with _ e; omega), hc j hjl, List.getElem_set_ne (by omega)]
theorem Own.set_ {w : World} {B g n c : Nat} {l : List UInt8} (h : Own w B g n c l) (k : Nat) {x : Int} {y : Nat} (hy : y < 256) (hx : x = (y : Int)) :
    Own (w.setCell ⟨g, k, none⟩ (.int .u8 x)) B g n c (l.set k (UInt8.ofNat y)) := by
  refine ⟨by rw [List.length_set]; exact h.1, ?_⟩
  have e : Lib.byteCells (l.set k (UInt8.ofNat y)) = (Lib.byteCells l).set k (.int .u8 x) := by
    unfold Lib.byteCells
    rw [List.map_set, u8_of y hy, hx]
  rw [e]
  exact (h.2.stored k _).1
theorem u8_in {n : Int} (h : (Lit.int .u8 n).wf = true) : 0 ≤ n ∧ n < 256 := by
  simp [Lit.wf, IntKind.min, IntKind.max, IntKind.signed, IntKind.bits] at h
  omega
theorem u64_in {n : Int} (h : (Lit.int .u64 n).wf = true) : 0 ≤ n ∧ n < 18446744073709551616 := by
  simp [Lit.wf, IntKind.min, IntKind.max, IntKind.signed, IntKind.bits] at h
  omega
set_option maxHeartbeats 400000 in
theorem pickB (n m : Int) (w : World) (hm : 0 < m) (hm2 : m ≤ 1000000000000000) :
    Calls Try.prog 5 #[.int .i64 n, .int .i64 m] w fun e w' => ∃ k : Nat, (k : Int) < m ∧ e = .returned (.int .i64 (k : Int)) ∧ w = w' := by
  have h1 : n.tmod m < m := Int.tmod_lt_of_pos n hm
  have h2 : -m < n.tmod m := by
    have := Int.lt_tmod_of_pos n hm
    omega
  obtain ⟨t, ht⟩ : ∃ t, n.tmod m = t := ⟨_, rfl⟩
  rw [ht] at h1 h2
  have hne : (m == 0) = false := by simp; omega
  by_cases hneg : t < 0
  · go_enter Try.func5, Try.ntmps5
    go_wp2
    go_ret
    exact ⟨(t + m).toNat, by omega, ret_int (by omega), rfl⟩
  · go_enter Try.func5, Try.ntmps5
    go_wp2
    go_ret
    exact ⟨t.toNat, by omega, ret_int (by omega), rfl⟩
end Go.Proofs.Ytakofbkbbmpfeaa

/- Package pyxref1: numbers as slices of decimal digits. What a slice of digits is; digit. -/
/- Package pyxref1: trim. -/
/- Package pyxref1: Word. -/
/- Package pyxref1: AddNat. -/
/- Package pyxref1: CmpNat. -/
import Derived.Test.YtakofbkbbmpfeaaHold
import Derived.Test.YtakofbkbbmpfeaaCoreA
import Derived.OwnWalk
import Derived.Deep.QuietTactic
import Derived.BigQuiet
namespace Go.Proofs.Ytakofbkbbmpfeaa
open Go.RowKit

/-- The slice value '.slice A n cap' holds the digits ds, the lowest first; it lies in blocks that are there. -/
def DigC (w : World) (A : Option Addr) (n cap : Nat) (ds : List Nat) : Prop :=
  ds.length = n ∧ (n ≤ cap ∧ (A = none → cap = 0)) ∧ n ≤ 1000000 ∧ (∀ d ∈ ds, d < 10) ∧ (0 < n → ∃ b off, A = some ⟨b, off, none⟩ ∧ b < w.heap.size ∧ ∀ j, j < n → w.cell? ⟨b, off + j, none⟩ = some (.int .i64 (ds.getD j 0 : Nat)))
theorem DigC.below {w w' : World} {A : Option Addr} {n cap : Nat} {ds : List Nat} (h : DigC w A n cap ds) (hb : Below w.heap.size w w') : DigC w' A n cap ds := by
  obtain ⟨h1, h2, h3, h4, h5⟩ := h
  refine ⟨h1, h2, h3, h4, fun hn => ?_⟩
  obtain ⟨b, off, e, hlt, hc⟩ := h5 hn
  exact ⟨b, off, e, Nat.lt_of_lt_of_le hlt hb.size, fun j hj => (hb.cell (p := ⟨b, off + j, none⟩) hlt).trans (hc j hj)⟩
theorem DigC.alloc {w : World} {A : Option Addr} {n cap : Nat} {ds : List Nat} (h : DigC w A n cap ds) (o : Obj) : DigC (w.alloc o) A n cap ds := h.below (bel_alloc (Below.refl _ _) o)
theorem DigC.drew {w : World} {A : Option Addr} {n cap : Nat} {ds : List Nat} (h : DigC w A n cap ds) : DigC w.drew A n cap ds := h

set_option maxHeartbeats 400000 in
theorem digit_c (A : Option Addr) (n cap k : Nat) (ds : List Nat) (w : World) (h : DigC w A n cap ds) :
    Calls Try.prog 69 #[.slice A n cap, .int .i64 k] w fun e w' => e = .returned (.int .i64 (ds.getD k 0 : Nat)) ∧ w = w' := by
  obtain ⟨h1, ⟨h2, hnil⟩, h3, h4, h5⟩ := h
  clear hnil
  by_cases hk : k < n
  · obtain ⟨b, off, rfl, hlt, hc⟩ := h5 (by omega)
    have ck := hc k hk
    have hv : ∃ v, ds.getD k 0 = v := ⟨_, rfl⟩
    obtain ⟨v, hv⟩ := hv
    rw [hv] at ck ⊢
    clear hc h5 h4 h1 hv
    go_enter Try.func69, Try.ntmps69
    go_wp2
    go_ret
    exact ⟨rfl, rfl⟩
  · have hz : ds.getD k 0 = 0 := by
      rw [List.getD_eq_getElem?_getD, List.getElem?_eq_none (by omega)]
      rfl
    rw [hz]
    clear h5 h4 h1 hz
    go_enter Try.func69, Try.ntmps69
    go_wp2
    go_ret
    exact ⟨rfl, rfl⟩
end Go.Proofs.Ytakofbkbbmpfeaa

namespace Go.Proofs.Ytakofbkbbmpfeaa
open Go.RowKit

/-- m is where ds ends, its zeros behind left out. -/
def TrimAt (ds : List Nat) (m : Nat) : Prop := m ≤ ds.length ∧ (∀ j, m ≤ j → ds.getD j 0 = 0) ∧ (0 < m → ds.getD (m - 1) 0 ≠ 0)
def TrimUp (ds : List Nat) (m : Nat) : Prop := m ≤ ds.length ∧ (∀ j, m ≤ j → ds.getD j 0 = 0)
theorem trimUp_0 (ds : List Nat) : TrimUp ds ds.length := ⟨Nat.le_refl _, fun j hj => by rw [List.getD_eq_getElem?_getD, List.getElem?_eq_none hj]; rfl⟩
theorem trimUp_s {ds : List Nat} {m : Nat} (h : TrimUp ds (m + 1)) (hz : ds.getD m 0 = 0) : TrimUp ds m :=
  ⟨by have := h.1; omega, fun j hj => by
    rcases Nat.eq_or_lt_of_le hj with e | e
    · rw [← e]; exact hz
    · exact h.2 j e⟩
theorem DigC.take {w : World} {A : Option Addr} {n cap m : Nat} {ds : List Nat} (h : DigC w A n cap ds) (hm : m ≤ n) : DigC w A m cap (ds.take m) := by
  obtain ⟨h1, h2, h3, h4, h5⟩ := h
  refine ⟨by rw [List.length_take]; omega, ⟨by have := h2.1; omega, h2.2⟩, by omega, fun d hd => h4 d (List.mem_of_mem_take hd), fun hp => ?_⟩
  obtain ⟨b, off, e, hlt, hc⟩ := h5 (by omega)
  refine ⟨b, off, e, hlt, fun j hj => ?_⟩
  rw [hc j (by omega)]
  simp [List.getD_eq_getElem?_getD, hj]
/-- The length of a slice value. -/
def lenOf : Value → Nat
  | .slice _ n _ => n
  | _ => 0
def IsTrim (A : Option Addr) (cap : Nat) (ds : List Nat) (v : Value) : Prop := ∃ m : Nat, TrimAt ds m ∧ v = .slice A m cap

set_option maxHeartbeats 800000 in
theorem trim_c (A : Option Addr) (n cap : Nat) (ds : List Nat) (w : World) (h : DigC w A n cap ds) :
    Calls Try.prog 70 #[.slice A n cap] w fun e w' => ∃ v, IsTrim A cap ds v ∧ e = .returned v ∧ w = w' := by
  obtain ⟨rfl, ⟨h2, hnil⟩, h3, h4, h5⟩ := h
  clear hnil
  have H5 := Lib.hid h5
  clear h5 h4
  go_enter Try.func70, Try.ntmps70
  go_wp2
  go_loop [0] (fun s => ∃ m : Nat, m ≤ ds.length ∧ TrimUp ds m ∧ s = .slice A m cap) (fun s => lenOf s)
  case atStart => exact ⟨ds.length, Nat.le_refl _, trimUp_0 ds, rfl⟩
  case round =>
    obtain ⟨m, hm, HT, rfl⟩ := hrel
    by_cases hz : m = 0
    · subst hz
      go_wp2
      go_ret
      exact ⟨_, ⟨0, ⟨Nat.zero_le _, HT.2, fun h => absurd h (by omega)⟩, rfl⟩, rfl, rfl⟩
    · obtain ⟨p, rfl⟩ : ∃ p, m = p + 1 := ⟨m - 1, by omega⟩
      obtain ⟨b, off, rfl, hlt, hc⟩ := H5.out (by omega)
      have cp := hc p (by omega)
      obtain ⟨d, hd⟩ : ∃ d, ds.getD p 0 = d := ⟨_, rfl⟩
      rw [hd] at cp
      by_cases hd0 : d = 0
      · have HT2 := trimUp_s HT (hd.trans hd0)
        subst hd0
        clear hd hc
        go_wp2
        go_round
        case rel => exact ⟨p, by omega, HT2, rfl⟩
        case measure => simp [lenOf]
      · have HD := Lib.hid hd
        have g : ((d : Int) == 0) = false := by simp; omega
        clear hd hc
        go_wp2
        go_ret
        exact ⟨_, ⟨p + 1, ⟨hm, HT.2, fun _ => by rw [Nat.add_sub_cancel, HD.out]; exact hd0⟩, rfl⟩, rfl, rfl⟩
end Go.Proofs.Ytakofbkbbmpfeaa

namespace Go.Proofs.Ytakofbkbbmpfeaa
open Go.RowKit

/-- The value of decimal digits, the lowest first. -/
def dv : List Nat → Nat
  | [] => 0
  | d :: l => d + 10 * dv l
theorem dv_snoc (l : List Nat) (d : Nat) : dv (l ++ [d]) = dv l + d * 10 ^ l.length := by
  induction l with
  | nil => simp [dv]
  | cons x l ih =>
    simp only [List.cons_append, dv, ih, List.length_cons, Nat.pow_succ]
    generalize 10 ^ l.length = p
    rw [Nat.mul_add, ← Nat.mul_assoc 10, Nat.mul_comm p 10, ← Nat.mul_assoc d, Nat.mul_comm d 10]
    omega
def mkD_ (d : Nat) : Value := .int .i64 d
/-- So far: m is left, ds has been told. -/
def WordI (n m : Nat) (ds : List Nat) : Prop := (∀ d ∈ ds, d < 10) ∧ n = dv ds + m * 10 ^ ds.length ∧ n < 18446744073709551616 ∧ (m = 0 → ds = [] ∨ ds.getD (ds.length - 1) 0 ≠ 0)
theorem wordI_0 {n : Nat} (h : n < 18446744073709551616) : WordI n n [] := ⟨by simp, by simp [dv], h, fun _ => Or.inl rfl⟩
theorem wordI_len {n m : Nat} {ds : List Nat} (h : WordI n m ds) (hm : 0 < m) : ds.length < 20 := by
  obtain ⟨_, e, hlt, _⟩ := h
  rcases Nat.lt_or_ge ds.length 20 with c | c
  · exact c
  · have h1 : 10 ^ 20 ≤ 10 ^ ds.length := Nat.pow_le_pow_right (by decide) c
    have h2 : 1 * 10 ^ ds.length ≤ m * 10 ^ ds.length := Nat.mul_le_mul_right _ hm
    omega
theorem wordI_le {n m : Nat} {ds : List Nat} (h : WordI n m ds) : m ≤ n := by
  obtain ⟨_, e, _, _⟩ := h
  have h1 : 1 ≤ 10 ^ ds.length := Nat.pow_pos (by decide)
  have h2 : m * 1 ≤ m * 10 ^ ds.length := Nat.mul_le_mul_left _ h1
  omega
theorem wordI_s {n m : Nat} {ds : List Nat} (h : WordI n m ds) (hm : 0 < m) : WordI n (m / 10) (ds ++ [m % 10]) := by
  obtain ⟨h1, e, hlt, _⟩ := h
  refine ⟨?_, ?_, hlt, fun hz => Or.inr ?_⟩
  · intro d hd
    rcases List.mem_append.1 hd with hd | hd
    · exact h1 d hd
    · simp at hd; omega
  · rw [dv_snoc, List.length_append, List.length_singleton, Nat.pow_succ, e]
    have : m = m % 10 + 10 * (m / 10) := (Nat.mod_add_div m 10).symm
    generalize hp : 10 ^ ds.length = p
    rw [Nat.mul_comm p 10, ← Nat.mul_assoc, Nat.add_assoc, ← Nat.add_mul]
    congr 2
    omega
  · rw [List.length_append, List.length_singleton, Nat.add_sub_cancel]
    simp
    omega
/-- A number without a 0 at its end is at least as great as its length says. -/
theorem dv_ge {ds : List Nat} (h : ds ≠ []) (hn : ds.getD (ds.length - 1) 0 ≠ 0) : 10 ^ (ds.length - 1) ≤ dv ds := by
  have hs : ds = ds.dropLast ++ [ds.getLast h] := (List.dropLast_concat_getLast h).symm
  have hg : ds.getD (ds.length - 1) 0 = ds.getLast h := by
    rw [List.getLast_eq_getElem, List.getD_eq_getElem?_getD, List.getElem?_eq_getElem (by have := List.length_pos_iff.2 h; omega)]
    rfl
  rw [hg] at hn
  have e := dv_snoc ds.dropLast (ds.getLast h)
  rw [← hs, List.length_dropLast] at e
  have h2 : 1 * 10 ^ (ds.length - 1) ≤ ds.getLast h * 10 ^ (ds.length - 1) := Nat.mul_le_mul_right _ (by omega)
  omega
theorem word_len {ds : List Nat} (_h : ∀ d ∈ ds, d < 10) (hlt : dv ds < 18446744073709551616) (hn : ds = [] ∨ ds.getD (ds.length - 1) 0 ≠ 0) : ds.length ≤ 1000000 := by
  rcases hn with rfl | hn
  · simp
  · by_cases h0 : ds = []
    · subst h0; simp
    · have h1 := dv_ge h0 hn
      rcases Nat.lt_or_ge ds.length 22 with c | c
      · omega
      · have : 10 ^ 20 ≤ 10 ^ (ds.length - 1) := Nat.pow_le_pow_right (by decide) (by omega)
        omega
set_option maxHeartbeats 800000 in
theorem word_n (n : Nat) (w : World) (hn : n < 18446744073709551616) :
    Calls Try.prog 54 #[.int .u64 n] w fun e w' => ∃ v ds, e = .returned v ∧ WordI n 0 ds ∧ w'.ownsRow w.heap.size 3 1 v ds.length (ds.map mkD_) ∧ Below w.heap.size w w' := by
  obtain ⟨i0, hi, hz0, hz1, hz2⟩ := info_parts info_int
  go_enter Try.func54, Try.ntmps54
  go_wp2
  go_loopw [0, 3] (fun s v wr => ∃ (m : Nat) (ds : List Nat), s = .int .u64 m ∧ WordI n m ds ∧ wr.ownsRow w.heap.size 3 1 v ds.length (ds.map mkD_) ∧ Below w.heap.size w wr) (fun s _ _ => (intOf s).toNat)
  case atStart => exact ⟨n, [], rfl, wordI_0 hn, World.ownsRow_nil _ _ _ _, Below.refl _ _⟩
  case round =>
    obtain ⟨m, ds, rfl, HI, hown, HB⟩ := hrel
    by_cases hm : 0 < m
    · have hl := wordI_len HI hm
      have HI2 := wordI_s HI hm
      have hsz := HB.size
      have hm2 : (0 : Int) < (m : Int) := by omega
      have hle := wordI_le HI
      have hq : IntKind.u64.wrap ((m : Int) / 10) = ((m / 10 : Nat) : Int) := by rw [IntKind.wrap_u64]; omega
      go_wp2_with (first
        | (at_builtin; refine wpList_append_own _ rfl _ _ 80 rfl w.heap.size 3 i0 (.int .i64 0) 1 8 Try.underlying80 hi hz0 hz1 hz2 rfl (by decide) _ _ _ rfl (hown.alloc _) ⟨wr.heap.size, 0, none⟩ 1 1 [.int .i64 ((m % 10 : Nat) : Int)] rfl rfl ?c1 ?c2 ?c3 ?c4 ?c5 ?_)
        | go_in)
      case c1 =>
        intro j u hj
        match j, hj with
        | 0, hj => simp at hj; subst hj; simp [Addr.add]
      case c2 => intro u hu; simp at hu; subst hu; rfl
      case c3 => unfold maxLen; omega
      case c4 => omega
      case c5 => simp; omega
      · intro v' w1 hown' hgrow _
        have HB2 : Below w.heap.size w w1 := (HB.alloc hsz _).grown hgrow (by simp; omega) (own_base hown)
        have hown2 : w1.ownsRow w.heap.size 3 1 v' (ds ++ [m % 10]).length ((ds ++ [m % 10]).map mkD_) := by
          rw [List.length_append, List.length_singleton, List.map_append]
          simpa [mkD_] using hown'
        clear hown' hgrow hown
        go_wp2
        go_roundw
        case rel => exact ⟨m / 10, _, by go_num, HI2, hown2, HB2⟩
        case measure => simp [intOf]; omega
    · obtain rfl : m = 0 := by omega
      go_wp2
      go_ret
      exact ⟨_, _, rfl, HI, hown, HB⟩

/-- Without a 0 at its end. -/
def Norm (ds : List Nat) : Prop := ds = [] ∨ ds.getD (ds.length - 1) 0 ≠ 0
/-- It returned a slice of digits, without a 0 at its end, whose value is N; nothing that was there has turned. -/
def RetN (w : World) (N : Nat) (e : Ending) (w' : World) : Prop := ∃ (A : Option Addr) (n cap : Nat) (ds : List Nat), (DigC w' A n cap ds ∧ Norm ds ∧ dv ds = N) ∧ e = .returned (.slice A n cap) ∧ Below w.heap.size w w'
theorem dig_own {w : World} {base : Nat} {v : Value} {ds : List Nat} (h : w.ownsRow base 3 1 v ds.length (ds.map mkD_)) (hd : ∀ d ∈ ds, d < 10) (hl : ds.length ≤ 1000000) : ∃ A cap, v = .slice A ds.length cap ∧ DigC w A ds.length cap ds := by
  rcases h.2 with ⟨rfl, h0⟩ | ⟨g, cap, cur, rfl, hb, hh, hc, _, _, ht⟩
  · refine ⟨none, 0, by rw [h0], rfl, ⟨by omega, fun _ => rfl⟩, hl, hd, fun hp => by omega⟩
  · refine ⟨_, cap, rfl, rfl, ⟨hc, fun h => by cases h⟩, hl, hd, fun hp => ⟨g, 0, rfl, ?_, fun j hj => ?_⟩⟩
    · rcases Nat.lt_or_ge g w.heap.size with c | c
      · exact c
      · rw [Array.getElem?_eq_none c] at hh; cases hh
    · have := h.cells (g := g) rfl j (.int .i64 (ds.getD j 0 : Nat)) (by simp [mkD_, hj])
      rw [Nat.zero_add]
      by_cases hz : j = 0
      · subst hz; simpa [Addr.add] using this
      · simpa [Addr.add, hz] using this
theorem word_c' (n : Nat) (w : World) (hn : n < 18446744073709551616) : Calls Try.prog 54 #[.int .u64 n] w (RetN w n) :=
  (word_n n w hn).mono fun e w' ⟨v, ds, he, hi, ho, hb⟩ => by
    obtain ⟨h1, h2, _, h4⟩ := hi
    have hl : ds.length ≤ 1000000 := word_len h1 (by rw [h2] at hn; simpa using hn) (h4 rfl)
    obtain ⟨A, cap, rfl, hd⟩ := dig_own ho h1 hl
    exact ⟨A, _, cap, ds, ⟨hd, h4 rfl, by rw [h2]; simp⟩, he, hb⟩
end Go.Proofs.Ytakofbkbbmpfeaa

namespace Go.Proofs.Ytakofbkbbmpfeaa
open Go.RowKit

theorem dv_take (a : List Nat) (k : Nat) : dv (a.take (k + 1)) = dv (a.take k) + a.getD k 0 * 10 ^ k := by
  by_cases h : k < a.length
  · rw [List.take_succ_eq_append_getElem h, dv_snoc, List.length_take, Nat.min_eq_left (Nat.le_of_lt h)]
    simp [List.getD_eq_getElem?_getD, h]
  · rw [List.take_of_length_le (by omega), List.take_of_length_le (by omega), List.getD_eq_getElem?_getD, List.getElem?_eq_none (by omega)]
    simp
theorem dv_trim {ds : List Nat} {m : Nat} (h : TrimAt ds m) : dv (ds.take m) = dv ds ∧ Norm (ds.take m) := by
  obtain ⟨h1, h2, h3⟩ := h
  constructor
  · have : ∀ k, dv (ds.take (m + k)) = dv (ds.take m) := by
      intro k
      induction k with
      | zero => rfl
      | succ k ih => rw [← Nat.add_assoc, dv_take, ih, h2 (m + k) (by omega), Nat.zero_mul, Nat.add_zero]
    have e := this (ds.length - m)
    rw [Nat.add_sub_cancel' h1, List.take_length] at e
    exact e.symm
  · by_cases hm : m = 0
    · subst hm; left; simp
    · right
      have h3 := h3 (by omega)
      rw [List.length_take, Nat.min_eq_left h1]
      rw [List.getD_eq_getElem?_getD, List.getElem?_take_of_lt (by omega), ← List.getD_eq_getElem?_getD]
      exact h3
def AddI (a b ds : List Nat) (k c : Nat) : Prop := ds.length = k ∧ (∀ d ∈ ds, d < 10) ∧ c ≤ 1 ∧ dv ds + c * 10 ^ k = dv (a.take k) + dv (b.take k)
theorem addI_0 (a b : List Nat) : AddI a b [] 0 0 := ⟨rfl, by simp, by omega, by simp [dv]⟩
theorem dig_lt {a : List Nat} (h : ∀ d ∈ a, d < 10) (k : Nat) : a.getD k 0 < 10 := by
  rw [List.getD_eq_getElem?_getD]
  cases e : a[k]? with
  | none => simp
  | some v => simpa using h v (List.mem_of_getElem? e)
theorem addI_s {a b ds : List Nat} {k c : Nat} (ha : ∀ d ∈ a, d < 10) (hb : ∀ d ∈ b, d < 10) (h : AddI a b ds k c) :
    AddI a b (ds ++ [(a.getD k 0 + b.getD k 0 + c) % 10]) (k + 1) ((a.getD k 0 + b.getD k 0 + c) / 10) := by
  obtain ⟨h1, h2, h3, h4⟩ := h
  have x := dig_lt ha k
  have y := dig_lt hb k
  refine ⟨by simp [h1], ?_, by omega, ?_⟩
  · intro d hd
    rcases List.mem_append.1 hd with hd | hd
    · exact h2 d hd
    · simp at hd; omega
  · rw [dv_snoc, h1, dv_take, dv_take, Nat.pow_succ]
    generalize hs : a.getD k 0 + b.getD k 0 + c = s
    have e : s % 10 * 10 ^ k + s / 10 * (10 ^ k * 10) = s * 10 ^ k := by
      rw [Nat.mul_comm (10 ^ k) 10, ← Nat.mul_assoc, ← Nat.add_mul, Nat.mul_comm (s / 10), Nat.mod_add_div]
    have e2 : s * 10 ^ k = a.getD k 0 * 10 ^ k + b.getD k 0 * 10 ^ k + c * 10 ^ k := by rw [← hs, Nat.add_mul, Nat.add_mul]
    omega
theorem addI_end {a b ds : List Nat} {k c : Nat} (h : AddI a b ds k c) (ha : a.length ≤ k) (hb : b.length ≤ k) (hc : c = 0) : dv ds = dv a + dv b := by
  obtain ⟨_, _, _, h4⟩ := h
  rw [List.take_of_length_le ha, List.take_of_length_le hb, hc] at h4
  omega

set_option maxHeartbeats 1600000 in
theorem addNat_c (A B : Option Addr) (n m ca cb : Nat) (a b : List Nat) (w : World) (ha : DigC w A n ca a) (hb : DigC w B m cb b) (hn : n ≤ 900000) (hm : m ≤ 900000) :
    Calls Try.prog 62 #[.slice A n ca, .slice B m cb] w (RetN w (dv a + dv b)) := by
  obtain ⟨i0, hi, hz0, hz1, hz2⟩ := info_parts info_int
  have la := ha.1
  have lb := hb.1
  have da := ha.2.2.2.1
  have db := hb.2.2.2.1
  have LA := Lib.hid la
  have LB := Lib.hid lb
  clear la lb
  have DA := Lib.hid da
  have DB := Lib.hid db
  clear da db
  go_enter Try.func62, Try.ntmps62
  go_wp2
  go_loopw [5, 6, 7] (fun v s q wr => ∃ (k c : Nat) (ds : List Nat), k ≤ 900001 ∧ (k ≤ n ∨ k ≤ m ∨ c = 0) ∧ s = .int .i64 c ∧ q = .int .i64 k ∧ AddI a b ds k c ∧ wr.ownsRow w.heap.size 3 1 v ds.length (ds.map mkD_) ∧ Below w.heap.size w wr) (fun _ _ q _ => 1000000 - (intOf q).toNat)
  case atStart => exact ⟨0, 0, [], by omega, by omega, rfl, rfl, addI_0 a b, World.ownsRow_nil _ _ _ _, Below.refl _ _⟩
  case round =>
    obtain ⟨k, c, ds, hk, hk2, rfl, rfl, HI, hown, HB⟩ := hrel
    have hc1 := HI.2.2.1
    have hsz := HB.size
    have hlen := HI.1
    have HLE := Lib.hid hlen
    clear hlen
    by_cases hgo : k < n ∨ k < m ∨ 0 < c
    · have hk3 : k ≤ 900000 := by omega
      obtain ⟨x, hx⟩ : ∃ x, a.getD k 0 = x := ⟨_, rfl⟩
      obtain ⟨y, hy⟩ : ∃ y, b.getD k 0 = y := ⟨_, rfl⟩
      have hx9 : x < 10 := by rw [← hx]; exact dig_lt DA.out k
      have hy9 : y < 10 := by rw [← hy]; exact dig_lt DB.out k
      have HI2 := addI_s DA.out DB.out HI
      rw [hx, hy] at HI2
      have C1 := digit_c A n ca k a wr (ha.below HB)
      have C2 := digit_c B m cb k b wr (hb.below HB)
      rw [hx] at C1
      rw [hy] at C2
      have HC1 := Lib.hid C1
      have HC2 := Lib.hid C2
      have hnew : k + 1 ≤ n ∨ k + 1 ≤ m ∨ (x + y + c) / 10 = 0 := by
        by_cases h1 : k < n
        · left; omega
        · by_cases h2 : k < m
          · right; left; omega
          · right; right
            have e1 : x = 0 := by rw [← hx, List.getD_eq_getElem?_getD, List.getElem?_eq_none (by rw [LA.out]; omega)]; rfl
            have e2 : y = 0 := by rw [← hy, List.getD_eq_getElem?_getD, List.getElem?_eq_none (by rw [LB.out]; omega)]; rfl
            omega
      have HNW := Lib.hid hnew
      clear hx hy C1 C2 hnew ha hb
      have hdl : ds.length ≤ 900001 := by rw [HLE.out]; omega
      rcases (show k < n ∨ (¬ k < n ∧ k < m) ∨ (¬ k < n ∧ ¬ k < m ∧ 0 < c) by omega) with h | ⟨h, h'⟩ | ⟨h, h', h''⟩
      all_goals
        go_wp2_with fail
        refine HC1.out.mono ?_
        rintro e w1 ⟨rfl, rfl⟩
        go_wp2_with fail
        refine HC2.out.mono ?_
        rintro e w1 ⟨rfl, rfl⟩
        go_wp2_with (first
          | (at_builtin; refine wpList_append_own _ rfl _ _ 80 rfl w.heap.size 3 i0 (.int .i64 0) 1 8 Try.underlying80 hi hz0 hz1 hz2 rfl (by decide) _ _ _ rfl (hown.alloc _) ⟨wr.heap.size, 0, none⟩ 1 1 [.int .i64 (((x + y + c) % 10 : Nat) : Int)] rfl rfl (by intro j u hj; match j, hj with | 0, hj => simp at hj; subst hj; simp [Addr.add]) (by intro u hu; simp at hu; subst hu; rfl) (by unfold maxLen; omega) (by omega) (by simp; omega) ?_)
          | go_in)
        intro v' w1 hown' hgrow _
        have HB2 : Below w.heap.size w w1 := (HB.alloc hsz _).grown hgrow (by simp; omega) (own_base hown)
        have hown2 : w1.ownsRow w.heap.size 3 1 v' (ds ++ [(x + y + c) % 10]).length ((ds ++ [(x + y + c) % 10]).map mkD_) := by
          rw [List.length_append, List.length_singleton, List.map_append]
          simpa [mkD_] using hown'
        clear hown' hgrow
        go_wp2
        go_roundw
        case rel => exact ⟨k + 1, (x + y + c) / 10, _, by omega, HNW.out, by go_num, by go_num, HI2, hown2, HB2⟩
        case measure => simp [intOf]; omega
    · have h1 : ¬ k < n := fun h => hgo (Or.inl h)
      have h2 : ¬ k < m := fun h => hgo (Or.inr (Or.inl h))
      obtain rfl : c = 0 := by omega
      have E := addI_end HI (by rw [LA.out]; omega) (by rw [LB.out]; omega) rfl
      obtain ⟨D, cap, rfl, HD⟩ := dig_own hown HI.2.1 (by rw [HLE.out]; omega)
      have HT := fun m h => dv_trim (ds := ds) (m := m) h
      have HTH := Lib.hid HT
      have HEH := Lib.hid E
      clear HT E hgo ha hb
      go_wp2_with fail
      refine (trim_c D _ cap ds _ HD).mono ?_
      rintro e w1 ⟨_, ⟨t, ht, rfl⟩, rfl, rfl⟩
      have H1 := HTH.out t ht
      have H2 := HD.take ht.1
      rw [HEH.out] at H1
      go_wp2
      go_ret
      exact ⟨_, _, _, _, ⟨H2, H1.2, H1.1⟩, rfl, HB⟩
end Go.Proofs.Ytakofbkbbmpfeaa

namespace Go.Proofs.Ytakofbkbbmpfeaa
open Go.RowKit

theorem dv_lt {l : List Nat} (h : ∀ d ∈ l, d < 10) : dv l < 10 ^ l.length := by
  induction l with
  | nil => simp [dv]
  | cons x l ih =>
    have h1 := ih fun d hd => h d (List.mem_cons_of_mem _ hd)
    have h2 := h x (List.mem_cons_self ..)
    simp only [dv, List.length_cons, Nat.pow_succ]
    omega
theorem dv_append (a b : List Nat) : dv (a ++ b) = dv a + 10 ^ a.length * dv b := by
  induction a with
  | nil => simp [dv]
  | cons x a ih =>
    simp only [List.cons_append, dv, ih, List.length_cons, Nat.pow_succ]
    rw [Nat.mul_add, Nat.mul_comm (10 ^ a.length) 10, Nat.mul_assoc]
    omega
theorem dv_split (a : List Nat) (k : Nat) (hk : k ≤ a.length) : dv a = dv (a.take k) + 10 ^ k * dv (a.drop k) := by
  have h := dv_append (a.take k) (a.drop k)
  rw [List.take_append_drop, List.length_take, Nat.min_eq_left hk] at h
  exact h
theorem dv_drop (a : List Nat) (k : Nat) (hk : k < a.length) : dv (a.drop k) = a.getD k 0 + 10 * dv (a.drop (k + 1)) := by
  rw [List.drop_eq_getElem_cons hk]
  simp [dv, List.getD_eq_getElem?_getD, hk]
/-- The shorter one is less. -/
theorem dv_shorter {a b : List Nat} (ha : ∀ d ∈ a, d < 10) (hb : Norm b) (h : a.length < b.length) : dv a < dv b := by
  rcases hb with rfl | hb
  · simp at h
  · have h0 : b ≠ [] := by intro e; subst e; simp at h
    have h1 := dv_ge h0 hb
    have h2 := dv_lt ha
    have h3 : 10 ^ a.length ≤ 10 ^ (b.length - 1) := Nat.pow_le_pow_right (by decide) (by omega)
    omega
theorem len_le {a b : List Nat} (ha : ∀ d ∈ a, d < 10) (hb : Norm b) (h : dv b ≤ dv a) : b.length ≤ a.length := by
  rcases Nat.lt_or_ge a.length b.length with c | c
  · have := dv_shorter ha hb c; omega
  · exact c
/-- The first digit from above that is less. -/
theorem dv_first {a b : List Nat} {p : Nat} (ha : ∀ d ∈ a, d < 10) (hl : a.length = b.length) (hp : p < a.length) (he : a.drop (p + 1) = b.drop (p + 1)) (hlt : a.getD p 0 < b.getD p 0) : dv a < dv b := by
  have h1 := dv_split a p (by omega)
  have h2 := dv_split b p (by omega)
  rw [dv_drop a p hp] at h1
  rw [dv_drop b p (by omega), ← he] at h2
  have h3 : dv (a.take p) < 10 ^ p := by
    have := dv_lt (l := a.take p) fun d hd => ha d (List.mem_of_mem_take hd)
    rwa [List.length_take, Nat.min_eq_left (by omega)] at this
  have h4 : 10 ^ p * (a.getD p 0 + 10 * dv (a.drop (p + 1))) + 10 ^ p ≤ 10 ^ p * (b.getD p 0 + 10 * dv (a.drop (p + 1))) := by
    rw [← Nat.mul_succ]
    exact Nat.mul_le_mul_left _ (by omega)
  omega
theorem bel_drewN {B : Nat} {a w : World} (h : Below B a w) (n : Nat) : Below B a (w.drewN n) := ⟨h.os, h.tape, h.output, h.size, h.block⟩
theorem ret_at {n k : Int} (h : n = k) : IsInt n (.int .i64 k) := by rw [IsInt, h]
theorem cmpI_gt {m n : Nat} (h : n < m) : cmpI m n = 1 := by
  unfold cmpI
  rw [if_neg (by omega), if_neg (by omega)]
theorem cmpI_eq {m n : Nat} (h : m = n) : cmpI m n = 0 := by
  unfold cmpI
  rw [if_pos h]
theorem drop_eq_s {a b : List Nat} {p : Nat} (ha : p < a.length) (hb : p < b.length) (h : a.drop (p + 1) = b.drop (p + 1)) (he : a.getD p 0 = b.getD p 0) : a.drop p = b.drop p := by
  rw [List.drop_eq_getElem_cons ha, List.drop_eq_getElem_cons hb, h]
  simp [List.getD_eq_getElem?_getD, ha, hb] at he
  rw [he]

def CmpRel (a b : List Nat) (n : Nat) (s : Value) : Prop := ∃ q : Int, -1 ≤ q ∧ q < n ∧ s = .int .i64 q ∧ a.drop (q + 1).toNat = b.drop (q + 1).toNat

set_option maxHeartbeats 1600000 in
theorem cmpNat_c (A B : Option Addr) (n m ca cb : Nat) (a b : List Nat) (w : World) (ha : DigC w A n ca a) (hb : DigC w B m cb b) (na : Norm a) (nb : Norm b) :
    Calls Try.prog 66 #[.slice A n ca, .slice B m cb] w (Ret w (IsInt (cmpI (dv a) (dv b)))) := by
  have la := ha.1
  have lb := hb.1
  have da := ha.2.2.2.1
  have db := hb.2.2.2.1
  have hn6 := ha.2.2.1
  have hm6 := hb.2.2.1
  by_cases hnm : n = m
  · subst hnm
    have g1 : ((n : Int) != (n : Int)) = false := by simp
    have LA := Lib.hid la
    have LB := Lib.hid lb
    have DA := Lib.hid da
    have DB := Lib.hid db
    have HA := Lib.hid ha
    have HB_ := Lib.hid hb
    clear la lb da db ha hb na nb
    go_enter Try.func66, Try.ntmps66
    go_wp2
    go_loopw [5] (fun s wr => CmpRel a b n s ∧ Below w.heap.size w wr) (fun s _ => (intOf s + 1).toNat)
    case atStart => exact ⟨⟨(n : Int) - 1, by omega, by omega, rfl, by rw [List.drop_of_length_le (by rw [LA.out]; omega), List.drop_of_length_le (by rw [LB.out]; omega)]⟩, Below.refl _ _⟩
    case round =>
      obtain ⟨⟨q, hq1, hq2, rfl, hdr⟩, HB⟩ := hrel
      have HDR := Lib.hid hdr
      clear hdr
      by_cases hq : 0 ≤ q
      · obtain ⟨p, rfl⟩ : ∃ p : Nat, q = p := ⟨q.toNat, by omega⟩
        have hp : p < n := by omega
        obtain ⟨b1, o1, hA, hlt1, hc1⟩ := (HA.out.below HB).2.2.2.2 (by omega)
        obtain ⟨b2, o2, hB, hlt2, hc2⟩ := (HB_.out.below HB).2.2.2.2 (by omega)
        have c1 := hc1 p hp
        have c2 := hc2 p hp
        obtain ⟨x, hx⟩ : ∃ x, a.getD p 0 = x := ⟨_, rfl⟩
        obtain ⟨y, hy⟩ : ∃ y, b.getD p 0 = y := ⟨_, rfl⟩
        have HX := Lib.hid hx
        have HY := Lib.hid hy
        rw [hx] at c1
        rw [hy] at c2
        have e1 : ((p : Int) + 1).toNat = p + 1 := by omega
        rw [e1] at HDR
        clear hc1 hc2 hx hy e1
        subst hA
        subst hB
        have hpi : (p : Int) < (n : Int) := by omega
        by_cases hxy : x < y
        · have E : cmpI (dv a) (dv b) = -1 := cmpI_lt (dv_first DA.out (by rw [LA.out, LB.out]) (by rw [LA.out]; omega) HDR.out (by rw [HX.out, HY.out]; exact hxy))
          have HE := Lib.hid E
          clear E
          go_wp2
          go_quiet (fail)
          go_wp2
          go_ret
          exact ⟨_, ret_at HE.out, rfl, bel_drewN HB _⟩
        · by_cases hyx : y < x
          · have E : cmpI (dv a) (dv b) = 1 := cmpI_gt (dv_first DB.out (by rw [LA.out, LB.out]) (by rw [LB.out]; omega) HDR.out.symm (by rw [HX.out, HY.out]; exact hyx))
            have HE := Lib.hid E
            clear E
            go_wp2
            go_quiet (fail)
            go_wp2
            go_quiet (fail)
            go_wp2
            go_ret
            exact ⟨_, ret_at HE.out, rfl, bel_drewN (bel_drewN HB _) _⟩
          · have HD2 := Lib.hid (drop_eq_s (by rw [LA.out]; omega) (by rw [LB.out]; omega) HDR.out (by rw [HX.out, HY.out]; omega))
            go_wp2
            go_quiet (fail)
            go_wp2
            go_quiet (fail)
            go_wp2
            go_roundw
            case rel => exact ⟨⟨(p : Int) - 1, by omega, by omega, rfl, by rw [show ((p : Int) - 1 + 1).toNat = p by omega]; exact HD2.out⟩, bel_drewN HB _⟩
            case measure => simp [intOf]
      · obtain rfl : q = -1 := by omega
        have E : cmpI (dv a) (dv b) = 0 := by
          have := HDR.out
          simp at this
          rw [this]
          exact cmpI_eq rfl
        have HE := Lib.hid E
        clear E
        go_wp2
        go_ret
        exact ⟨_, ret_at HE.out, rfl, HB⟩
  · have g1 : ((n : Int) != (m : Int)) = true := by simp; omega
    by_cases hlt : n < m
    · have E : cmpI (dv a) (dv b) = -1 := cmpI_lt (dv_shorter da nb (by omega))
      rw [E]
      clear la lb da db ha hb na nb E hnm
      go_enter Try.func66, Try.ntmps66
      go_wp2
      go_ret
      exact ⟨_, rfl, rfl, Below.refl _ _⟩
    · have E : cmpI (dv a) (dv b) = 1 := cmpI_gt (dv_shorter db na (by omega))
      rw [E]
      clear la lb da db ha hb na nb E hnm
      go_enter Try.func66, Try.ntmps66
      go_wp2
      go_ret
      exact ⟨_, rfl, rfl, Below.refl _ _⟩
end Go.Proofs.Ytakofbkbbmpfeaa

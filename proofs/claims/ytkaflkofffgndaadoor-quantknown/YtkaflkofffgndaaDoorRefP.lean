/- Package pyxref1: SubNat. -/
/- Package pyxref1: MulNat. -/
/- Package pyxref1: MulNat's walk. -/
/- Package pyxref1: DivNat. -/
/- Package pyxref1: DivNat's walk. -/
/- Package pyxref1: TenNat, radix, Within, short. -/
/- Package pyxref1: short, Nat2, Nat4. -/
/- Package pyxref1: Words2, Words4, Two, Left, Right, Bits. -/
/- Package pyxref1: Make, Of. -/
import Derived.Test.YtkaflkofffgndaaDoorRefE
import Derived.Deep.OwnRows
import Derived.Laws.AppendOwnNone
import Derived.Deep.RegionHeld3
import Derived.Test.YtkaflkofffgndaaDoorDecF
namespace Go.Proofs.YtkaflkofffgndaaDoor
open Go.RowKit

def SubI (a b ds : List Nat) (k c : Nat) : Prop := ds.length = k ∧ (∀ d ∈ ds, d < 10) ∧ c ≤ 1 ∧ dv ds + dv (b.take k) + (if c = 0 then 0 else 10 ^ k) = dv (a.take k) + 2 * (if c = 0 then 0 else 10 ^ k)
theorem subI_0 (a b : List Nat) : SubI a b [] 0 0 := ⟨rfl, by simp, by omega, by simp [dv]⟩
theorem subI_val {a b ds : List Nat} {k c : Nat} (h : SubI a b ds k c) : dv ds + dv (b.take k) = dv (a.take k) + c * 10 ^ k := by
  obtain ⟨_, _, h3, h4⟩ := h
  rcases (show c = 0 ∨ c = 1 by omega) with rfl | rfl
  · simpa using h4
  · simp at h4 ⊢; omega
theorem subI_mk {a b ds : List Nat} {k c : Nat} (h1 : ds.length = k) (h2 : ∀ d ∈ ds, d < 10) (h3 : c ≤ 1) (h4 : dv ds + dv (b.take k) = dv (a.take k) + c * 10 ^ k) : SubI a b ds k c := by
  refine ⟨h1, h2, h3, ?_⟩
  rcases (show c = 0 ∨ c = 1 by omega) with rfl | rfl
  · simpa using h4
  · simp at h4 ⊢; omega
theorem dig_snoc_lt {ds : List Nat} {s : Nat} (h : ∀ d ∈ ds, d < 10) (hs : s < 10) : ∀ d ∈ ds ++ [s], d < 10 := by
  intro d hd
  rcases List.mem_append.1 hd with hd | hd
  · exact h d hd
  · simp at hd; omega
/-- A digit that needs no borrowing. -/
theorem subI_ge {a b ds : List Nat} {k c x y s : Nat} (ha : ∀ d ∈ a, d < 10) (h : SubI a b ds k c) (hx : a.getD k 0 = x) (hy : b.getD k 0 = y) (e : x = s + y + c) : SubI a b (ds ++ [s]) (k + 1) 0 := by
  have h4 := subI_val h
  obtain ⟨h1, h2, h3, _⟩ := h
  have x9 := dig_lt ha k
  refine subI_mk (by simp [h1]) (dig_snoc_lt h2 (by omega)) (by omega) ?_
  rw [dv_snoc, h1, dv_take, dv_take, hx, hy]
  have : x * 10 ^ k = s * 10 ^ k + y * 10 ^ k + c * 10 ^ k := by rw [e, Nat.add_mul, Nat.add_mul]
  omega
/-- One that does. -/
theorem subI_lt {a b ds : List Nat} {k c x y s : Nat} (hb : ∀ d ∈ b, d < 10) (h : SubI a b ds k c) (hx : a.getD k 0 = x) (hy : b.getD k 0 = y) (e : x + 10 = s + y + c) (hlt : x < y + c) : SubI a b (ds ++ [s]) (k + 1) 1 := by
  have h4 := subI_val h
  obtain ⟨h1, h2, h3, _⟩ := h
  have y9 := dig_lt hb k
  refine subI_mk (by simp [h1]) (dig_snoc_lt h2 (by omega)) (by omega) ?_
  rw [dv_snoc, h1, dv_take, dv_take, hx, hy, Nat.pow_succ]
  have : x * 10 ^ k + 10 * 10 ^ k = s * 10 ^ k + y * 10 ^ k + c * 10 ^ k := by rw [← Nat.add_mul, ← Nat.add_mul, ← Nat.add_mul, e]
  omega
theorem subI_end {a b ds : List Nat} {c : Nat} (h : SubI a b ds a.length c) (hl : b.length ≤ a.length) (hle : dv b ≤ dv a) : dv ds = dv a - dv b := by
  have h4 := subI_val h
  obtain ⟨h1, h2, h3, _⟩ := h
  have h5 := dv_lt h2
  rw [List.take_length, List.take_of_length_le hl] at h4
  rw [h1] at h5
  rcases (show c = 0 ∨ c = 1 by omega) with rfl | rfl <;> omega

theorem quiet_same {P : Program} {f : FuncId} {args : Array Value} {w : World} {n : Nat} {v : Value} (h : Calls P f args (w.drewN n) fun e w' => e = .returned v ∧ w.drewN n = w') :
    Calls P f args (w.drewN n) fun e w'' => e = .returned v ∧ ∃ m, w'' = w.drewN m := h.mono fun _ _ ⟨he, hm⟩ => ⟨he, n, hm.symm⟩

theorem new1 {w w2 : World} {t : TypeId} {v v' : Value} (hv : v' = v) (hw : w2 = w.alloc (.cells #[v'] t)) : ∀ (j : Nat) (u : Value), [v][j]? = some u → w2.cell? ((⟨w.heap.size, 0, none⟩ : Addr).add j) = some u := by
  subst hv
  subst hw
  intro j u hj
  match j, hj with
  | 0, hj =>
    simp at hj
    subst hj
    simp [Addr.add]

/-- .. in memory that was not there before. -/
def RetF (w : World) (N : Nat) (e : Ending) (w' : World) : Prop := ∃ (A : Option Addr) (n cap : Nat) (ds : List Nat), (DigC w' A n cap ds ∧ Norm ds ∧ dv ds = N ∧ ∀ ad, A = some ad → w.heap.size ≤ ad.block) ∧ e = .returned (.slice A n cap) ∧ Below w.heap.size w w'
theorem own_fresh {w : World} {base : Nat} {e : TypeId} {size n m cap : Nat} {A : Option Addr} {xs : List Value} (h : w.ownsRow base e size (.slice A m cap) n xs) : ∀ ad, A = some ad → base ≤ ad.block := by
  intro ad hA
  subst hA
  exact own_base h _ rfl

end Go.Proofs.YtkaflkofffgndaaDoor

namespace Go.Proofs.YtkaflkofffgndaaDoor
open Go.RowKit

theorem dv_set (l : List Nat) (j v : Nat) (h : j < l.length) : dv (l.set j v) + l.getD j 0 * 10 ^ j = dv l + v * 10 ^ j := by
  induction l generalizing j with
  | nil => simp at h
  | cons x l ih =>
    cases j with
    | zero => simp [dv]; omega
    | succ j =>
      have := ih j (by simpa using h)
      simp only [List.set_cons_succ, dv, Nat.pow_succ, List.getD_cons_succ]
      rw [Nat.mul_comm (10 ^ j) 10, Nat.mul_left_comm, Nat.mul_left_comm v]
      omega
theorem getD_set (l : List Nat) (j k v : Nat) (h : j ≠ k) : (l.set j v).getD k 0 = l.getD k 0 := by
  rw [List.getD_eq_getElem?_getD, List.getD_eq_getElem?_getD, List.getElem?_set_ne h]
theorem dv_rep (n : Nat) : dv (List.replicate n 0) = 0 := by
  induction n with
  | zero => rfl
  | succ n ih => simp [List.replicate_succ, dv, ih]
theorem getD_rep (n j : Nat) : (List.replicate n 0).getD j 0 = 0 := by
  rw [List.getD_eq_getElem?_getD, List.getElem?_replicate]
  split <;> rfl
/-- So far: the first i digits of a times b. -/
def OutN (a b : List Nat) (L i : Nat) (ds : List Nat) : Prop := ds.length = L ∧ (∀ d ∈ ds, d < 10) ∧ (∀ j, i + b.length ≤ j → ds.getD j 0 = 0) ∧ dv ds = dv (a.take i) * dv b
/-- .. and of digit i times the first k of b, with a carry. -/
def MulN (a b : List Nat) (L i k c : Nat) (ds : List Nat) : Prop :=
  ds.length = L ∧ (∀ d ∈ ds, d < 10) ∧ c ≤ 9 ∧ k ≤ b.length + 1 ∧ (k = b.length + 1 → c = 0) ∧ (∀ j, i + b.length + 1 ≤ j → ds.getD j 0 = 0) ∧
    (k ≤ b.length → ∀ j, i + b.length ≤ j → k ≤ j - i → ds.getD j 0 = 0) ∧ dv ds + c * 10 ^ (i + k) = dv (a.take i) * dv b + a.getD i 0 * dv (b.take k) * 10 ^ i
theorem outN_0 (a b : List Nat) (L : Nat) : OutN a b L 0 (List.replicate L 0) :=
  ⟨by simp, fun d hd => by rw [List.eq_of_mem_replicate hd]; decide, fun j _ => getD_rep L j, by simp [dv_rep, dv]⟩
theorem mulN_0 {a b ds : List Nat} {L i : Nat} (h : OutN a b L i ds) : MulN a b L i 0 0 ds := by
  obtain ⟨h1, h2, h3, h4⟩ := h
  exact ⟨h1, h2, by omega, by omega, by omega, fun j hj => h3 j (by omega), fun _ j hj _ => h3 j hj, by simp [dv, h4]⟩
theorem mem_set_lt {ds : List Nat} {j v : Nat} (h : ∀ d ∈ ds, d < 10) (hv : v < 10) : ∀ d ∈ ds.set j v, d < 10 := by
  intro d hd
  rcases List.mem_or_eq_of_mem_set hd with h' | h'
  · exact h d h'
  · omega
theorem mulN_s {a b ds : List Nat} {L i k c : Nat} (ha : ∀ d ∈ a, d < 10) (hb : ∀ d ∈ b, d < 10) (hL : i + b.length < L) (h : MulN a b L i k c ds) (hg : k < b.length ∨ 0 < c) :
    i + k < L ∧ MulN a b L i (k + 1) ((ds.getD (i + k) 0 + a.getD i 0 * b.getD k 0 + c) / 10) (ds.set (i + k) ((ds.getD (i + k) 0 + a.getD i 0 * b.getD k 0 + c) % 10)) := by
  obtain ⟨h1, h2, h3, h4, h5, h6, h7, h8⟩ := h
  have hk : k ≤ b.length := by omega
  have x9 := dig_lt ha i
  have y9 := dig_lt hb k
  have d9 := dig_lt h2 (i + k)
  have hxy : a.getD i 0 * b.getD k 0 ≤ 9 * 9 := Nat.mul_le_mul (by omega) (by omega)
  have hend : k = b.length → ds.getD (i + k) 0 + a.getD i 0 * b.getD k 0 = 0 := by
    intro e
    have e1 := h7 hk (i + k) (by omega) (by omega)
    have e2 : b.getD k 0 = 0 := by rw [List.getD_eq_getElem?_getD, List.getElem?_eq_none (by omega)]; rfl
    rw [e1, e2]; rfl
  have hset := dv_set ds (i + k) ((ds.getD (i + k) 0 + a.getD i 0 * b.getD k 0 + c) % 10) (by omega)
  generalize hs : ds.getD (i + k) 0 + a.getD i 0 * b.getD k 0 + c = s at *
  refine ⟨by omega, by simp [h1], mem_set_lt h2 (by omega), by omega, by omega, ?_, ?_, ?_, ?_⟩
  · intro e
    have := hend (by omega)
    omega
  · intro j hj
    rw [getD_set _ _ _ _ (by omega)]
    exact h6 j hj
  · intro hk1 j hj hkj
    rw [getD_set _ _ _ _ (by omega)]
    exact h7 hk j hj (by omega)
  · rw [dv_take, Nat.mul_add, Nat.add_mul]
    have e1 : s * 10 ^ (i + k) = s % 10 * 10 ^ (i + k) + s / 10 * 10 ^ (i + (k + 1)) := by
      rw [← Nat.add_assoc, Nat.pow_succ, Nat.mul_comm (10 ^ (i + k)) 10, ← Nat.mul_assoc, ← Nat.add_mul, Nat.mul_comm (s / 10), Nat.mod_add_div]
    have e2 : s * 10 ^ (i + k) = ds.getD (i + k) 0 * 10 ^ (i + k) + a.getD i 0 * b.getD k 0 * 10 ^ (i + k) + c * 10 ^ (i + k) := by rw [← hs, Nat.add_mul, Nat.add_mul]
    have e3 : a.getD i 0 * (b.getD k 0 * 10 ^ k) * 10 ^ i = a.getD i 0 * b.getD k 0 * 10 ^ (i + k) := by
      rw [Nat.pow_add, Nat.mul_assoc, Nat.mul_assoc, Nat.mul_assoc, Nat.mul_comm (10 ^ k)]
    omega
theorem mulN_end {a b ds : List Nat} {L i k c : Nat} (h : MulN a b L i k c ds) (hk : b.length ≤ k) (hc : c = 0) : OutN a b L (i + 1) ds := by
  obtain ⟨h1, h2, _, _, _, h6, _, h8⟩ := h
  refine ⟨h1, h2, fun j hj => h6 j (by omega), ?_⟩
  rw [hc, Nat.zero_mul, Nat.add_zero, List.take_of_length_le hk] at h8
  rw [h8, dv_take, Nat.add_mul, Nat.mul_right_comm]
theorem outN_end {a b ds : List Nat} {L i : Nat} (h : OutN a b L i ds) (hi : a.length ≤ i) : dv ds = dv a * dv b := by
  rw [h.2.2.2, List.take_of_length_le hi]
def mSl (g L : Nat) : Value := .slice (some ⟨g, 0, none⟩) L L
theorem own_made {w : World} (L : Nat) (hL : L ≤ 2000000) : (w.alloc (.cells (madeCells #[.int .i64 0] L) 3)).ownsRow w.heap.size 3 1 (.slice (some ⟨w.heap.size, 0, none⟩) L L) L ((List.replicate L 0).map mkD_) := by
  have h := World.ownsRow_lit (base := w.heap.size) (e := 3) (size := 1) w (madeCells #[.int .i64 0] L) L (Nat.le_refl _) (by unfold maxLen; omega) (by simp [size_madeCells])
  rw [toList_madeCells_one] at h
  simpa [mkD_] using h
theorem own_set {w : World} {base g L cap j v : Nat} {ds : List Nat} (h : w.ownsRow base 3 1 (.slice (some ⟨g, 0, none⟩) L cap) L (ds.map mkD_)) : (w.setCell ⟨g, j, none⟩ (.int .i64 (v : Int))).ownsRow base 3 1 (.slice (some ⟨g, 0, none⟩) L cap) L ((ds.set j v).map mkD_) := by
  have := (h.stored j (.int .i64 (v : Int))).1
  rw [List.map_set]
  exact this
theorem own_cell {w : World} {base g L cap j : Nat} {ds : List Nat} (h : w.ownsRow base 3 1 (.slice (some ⟨g, 0, none⟩) L cap) L (ds.map mkD_)) (hl : ds.length = L) (hj : j < L) : w.cell? ⟨g, j, none⟩ = some (.int .i64 (ds.getD j 0 : Nat)) := by
  rw [h.cellAt j (by omega)]
  simp [mkD_, List.getD_eq_getElem?_getD, show j < ds.length by omega]
end Go.Proofs.YtkaflkofffgndaaDoor

namespace Go.Proofs.YtkaflkofffgndaaDoor
open Go.RowKit
theorem own_set' {w : World} {base g L cap j v : Nat} {ds : List Nat} {x : Int} (hx : x = (v : Int)) (h : w.ownsRow base 3 1 (.slice (some ⟨g, 0, none⟩) L cap) L (ds.map mkD_)) : (w.setCell ⟨g, j, none⟩ (.int .i64 x)).ownsRow base 3 1 (.slice (some ⟨g, 0, none⟩) L cap) L ((ds.set j v).map mkD_) := by
  subst hx
  exact own_set h

end Go.Proofs.YtkaflkofffgndaaDoor

namespace Go.Proofs.YtkaflkofffgndaaDoor
open Go.RowKit

/-- From digit k on: qs times b, and rs is left. -/
def DivN (a b qs rs : List Nat) (k : Nat) : Prop := qs.length = a.length ∧ (∀ d ∈ qs, d < 10) ∧ (∀ t, t < k → qs.getD t 0 = 0) ∧ dv (a.drop k) = dv (qs.drop k) * dv b + dv rs
theorem divN_0 (a b : List Nat) : DivN a b (List.replicate a.length 0) [] a.length := by
  refine ⟨by simp, fun d hd => by rw [List.eq_of_mem_replicate hd]; decide, fun t _ => getD_rep _ t, ?_⟩
  simp [dv]
/-- The next digit comes down. -/
theorem divN_down {a b qs rs rs' : List Nat} {k : Nat} (h : DivN a b qs rs (k + 1)) (hk : k < a.length) (e : dv rs' = a.getD k 0 + 10 * dv rs) : DivN a b qs rs' k := by
  obtain ⟨h1, h2, h3, h4⟩ := h
  refine ⟨h1, h2, fun t ht => h3 t (by omega), ?_⟩
  rw [dv_drop a k hk, h4, dv_drop qs k (by omega), h3 k (by omega), Nat.zero_add, e, Nat.mul_assoc]
  omega
theorem dv_set_drop (l : List Nat) (k v : Nat) (hk : k < l.length) : dv ((l.set k v).drop k) + l.getD k 0 = dv (l.drop k) + v := by
  rw [dv_drop (l.set k v) k (by simpa using hk), dv_drop l k hk]
  have e1 : (l.set k v).getD k 0 = v := by simp [List.getD_eq_getElem?_getD, hk]
  have e2 : (l.set k v).drop (k + 1) = l.drop (k + 1) := by rw [List.drop_set_of_lt (by omega)]
  rw [e1, e2]
  omega
/-- Once more. -/
theorem divN_once {a b qs rs rs' : List Nat} {k : Nat} (h : DivN a b qs rs k) (hk : k < a.length) (hle : dv b ≤ dv rs) (e : dv rs' = dv rs - dv b) (h9 : qs.getD k 0 + 1 < 10) : DivN a b (qs.set k (qs.getD k 0 + 1)) rs' k := by
  obtain ⟨h1, h2, h3, h4⟩ := h
  refine ⟨by simpa using h1, mem_set_lt h2 h9, fun t ht => by rw [getD_set _ _ _ _ (by omega)]; exact h3 t ht, ?_⟩
  have hs := dv_set_drop qs k (qs.getD k 0 + 1) (by omega)
  have e2 : dv ((qs.set k (qs.getD k 0 + 1)).drop k) = dv (qs.drop k) + 1 := by omega
  rw [e2, h4, Nat.add_mul, Nat.one_mul]
  omega
theorem divN_end {a b qs rs : List Nat} (h : DivN a b qs rs 0) (hlt : dv rs < dv b) : dv qs = dv a / dv b ∧ dv rs = dv a % dv b := by
  obtain ⟨_, _, _, h4⟩ := h
  simp only [List.drop_zero] at h4
  have h5 : dv b * dv qs + dv rs = dv a := by rw [h4, Nat.mul_comm]
  constructor
  · rw [← h5, Nat.mul_add_div (by omega), Nat.div_eq_of_lt hlt, Nat.add_zero]
  · rw [← h5, Nat.mul_add_mod, Nat.mod_eq_of_lt hlt]
theorem norm_len {l : List Nat} {k : Nat} (h : Norm l) (hlt : dv l < 10 ^ k) : l.length ≤ k := by
  rcases h with rfl | h
  · simp
  · by_cases h0 : l = []
    · subst h0; simp
    · have h1 := dv_ge h0 h
      rcases Nat.lt_or_ge k l.length with c | c
      · have : 10 ^ k ≤ 10 ^ (l.length - 1) := Nat.pow_le_pow_right (by decide) (by omega)
        omega
      · exact c
theorem times_lt {t B r : Nat} (h : t * B + r < 10 * B) (hle : B ≤ r) : t + 1 < 10 := by
  rcases Nat.lt_or_ge (t + 1) 10 with c | c
  · exact c
  · have : 10 * B ≤ (t + 1) * B := Nat.mul_le_mul_right _ c
    rw [Nat.add_mul, Nat.one_mul] at this
    omega
theorem ten_lt {m B : Nat} (h : B < 10 ^ m) : 10 * B < 10 ^ (m + 1) := by rw [Nat.pow_succ]; omega
theorem own_below {w w' : World} {base : Nat} {e : TypeId} {size n : Nat} {v : Value} {xs : List Value} (h : w.ownsRow base e size v n xs) (hb : Below w.heap.size w w') : w'.ownsRow base e size v n xs := by
  refine ⟨h.1, ?_⟩
  rcases h.2 with h | ⟨g, cap, cur, hv, h1, hg, h2⟩
  · exact .inl h
  · have hlt : g < w.heap.size := by
      rcases Nat.lt_or_ge g w.heap.size with c | c
      · exact c
      · rw [Array.getElem?_eq_none c] at hg; cases hg
    exact .inr ⟨g, cap, cur, hv, h1, (hb.block g hlt).trans hg, h2⟩
/-- A store into another block leaves digits. -/
theorem DigC.far {w : World} {A : Option Addr} {n cap g j : Nat} {ds : List Nat} {u : Value} (h : DigC w A n cap ds) (hf : ∀ ad, A = some ad → g ≠ ad.block) : DigC (w.setCell ⟨g, j, none⟩ u) A n cap ds := by
  obtain ⟨h1, h2, h3, h4, h5⟩ := h
  refine ⟨h1, h2, h3, h4, fun hn => ?_⟩
  obtain ⟨b, off, e, hlt, hc⟩ := h5 hn
  refine ⟨b, off, e, by simpa using hlt, fun i hi => ?_⟩
  have := hf _ e
  rw [World.cell?_of_block (w := w) (Below.heap_setCell w ⟨g, j, none⟩ u b (fun h => this h.symm))]
  exact hc i hi
/-- Digits as the source of an append. -/
theorem DigC.src {w : World} {ad : Addr} {n cap : Nat} {ds : List Nat} (h : DigC w (some ad) n cap ds) : ∀ j u, (ds.map mkD_)[j]? = some u → w.cell? (ad.add j) = some u := by
  obtain ⟨h1, h2, h3, h4, h5⟩ := h
  intro j u hu
  have hj : j < ds.length := by
    have := (List.getElem?_eq_some_iff.1 hu).1
    simpa using this
  obtain ⟨b, off, e, hlt, hc⟩ := h5 (by omega)
  injection e with e
  subst e
  have e2 : (⟨b, off, none⟩ : Addr).add j = ⟨b, off + j, none⟩ := Addr.add_lit ..
  rw [e2, hc j (by omega)]
  simp [mkD_, hj] at hu
  rw [← hu]
  simp [List.getD_eq_getElem?_getD, hj]
/-- It returned two of them. -/
def RetQR (w : World) (Q R : Nat) (e : Ending) (w' : World) : Prop := ∃ (A : Option Addr) (n cap : Nat) (ds : List Nat) (A' : Option Addr) (n' cap' : Nat) (ds' : List Nat),
  (DigC w' A n cap ds ∧ Norm ds ∧ dv ds = Q ∧ ∀ ad, A = some ad → w.heap.size ≤ ad.block) ∧ (DigC w' A' n' cap' ds' ∧ Norm ds' ∧ dv ds' = R ∧ ∀ ad, A' = some ad → w.heap.size ≤ ad.block) ∧ e = .returned (.tuple #[.slice A n cap, .slice A' n' cap']) ∧ Below w.heap.size w w'
end Go.Proofs.YtkaflkofffgndaaDoor

namespace Go.Proofs.YtkaflkofffgndaaDoor
open Go.RowKit

theorem cmpI_up {m n : Nat} (h : n ≤ m) : ∃ z, cmpI m n = z ∧ 0 ≤ z := by
  rcases Nat.eq_or_lt_of_le h with e | e
  · exact ⟨0, cmpI_eq e.symm, by omega⟩
  · exact ⟨1, cmpI_gt e, by omega⟩
theorem mkD_one (rs : List Nat) : ∀ u ∈ rs.map mkD_, u.oneCell' = true := by
  intro u hu
  obtain ⟨d, _, rfl⟩ := List.mem_map.1 hu
  rfl
def cellN (w : World) (g p : Nat) : Nat := (intOf ((w.cell? ⟨g, p, none⟩).getD undef)).toNat
theorem cellN_own {w : World} {base g L cap j : Nat} {ds : List Nat} (h : w.ownsRow base 3 1 (.slice (some ⟨g, 0, none⟩) L cap) L (ds.map mkD_)) (hl : ds.length = L) (hj : j < L) : cellN w g j = ds.getD j 0 := by
  unfold cellN
  rw [own_cell h hl hj]
  simp [intOf]
/-- What is left, in memory apart from block g. -/
def RemC (g : Nat) (wr : World) (r : Value) (rs : List Nat) : Prop := ∃ (R : Option Addr) (nr cr : Nat), r = .slice R nr cr ∧ DigC wr R nr cr rs ∧ Norm rs ∧ ∀ ad, R = some ad → g < ad.block
def DivO (w : World) (a b : List Nat) (n : Nat) (r s : Value) (wr : World) : Prop := ∃ (q : Int) (qs rs : List Nat), -1 ≤ q ∧ q < n ∧ s = .int .i64 q ∧ RemC w.heap.size wr r rs ∧ dv rs < dv b ∧ DivN a b qs rs (q + 1).toNat ∧
  wr.ownsRow w.heap.size 3 1 (.slice (some ⟨w.heap.size, 0, none⟩) n n) n (qs.map mkD_) ∧ Below w.heap.size w wr ∧ w.heap.size < wr.heap.size
def DivP (w : World) (a b : List Nat) (n p : Nat) (r : Value) (wr : World) : Prop := ∃ (qs rs : List Nat), RemC w.heap.size wr r rs ∧ qs.getD p 0 * dv b + dv rs < 10 * dv b ∧ DivN a b qs rs p ∧
  wr.ownsRow w.heap.size 3 1 (.slice (some ⟨w.heap.size, 0, none⟩) n n) n (qs.map mkD_) ∧ Below w.heap.size w wr ∧ w.heap.size < wr.heap.size

end Go.Proofs.YtkaflkofffgndaaDoor

namespace Go.Proofs.YtkaflkofffgndaaDoor
open Go.RowKit

theorem lenA {w : World} {A : Option Addr} {n cap k : Nat} {ds : List Nat} (h : DigC w A n cap ds) (hn : Norm ds) (hlt : dv ds < 10 ^ k) : n ≤ k := by
  have := norm_len hn hlt
  rwa [h.1] at this
theorem dig_lit (w : World) (d : Nat) (hd : d < 10) : DigC (w.alloc (.cells #[.int .i64 (d : Int)] 3)) (some ⟨w.heap.size, 0, none⟩) 1 1 [d] := by
  refine ⟨rfl, ⟨Nat.le_refl _, fun h => by cases h⟩, by omega, by simpa using hd, fun _ => ⟨_, _, rfl, by simp, fun j hj => ?_⟩⟩
  obtain rfl : j = 0 := by omega
  simp

theorem ret_int {k : IntKind} {a b : Int} (h : a = b) : Ending.returned (.int k a) = .returned (.int k b) := by rw [h]
def withinI (n lo hi : Int) : Int := max lo (min hi n)
theorem dv_ten (k : Nat) : dv ((List.replicate (k + 1) 0).set k 1) = 10 ^ k ∧ Norm ((List.replicate (k + 1) 0).set k 1) ∧ (∀ d ∈ (List.replicate (k + 1) 0).set k 1, d < 10) := by
  refine ⟨?_, Or.inr ?_, mem_set_lt (fun d hd => by rw [List.eq_of_mem_replicate hd]; decide) (by decide)⟩
  · have := dv_set (List.replicate (k + 1) 0) k 1 (by simp)
    rw [dv_rep, getD_rep] at this
    omega
  · simp [List.getD_eq_getElem?_getD]
end Go.Proofs.YtkaflkofffgndaaDoor

namespace Go.Proofs.YtkaflkofffgndaaDoor
open Go.RowKit

theorem dv_drop_le (a : List Nat) (k : Nat) : dv (a.drop k) ≤ dv a := by
  by_cases h : k ≤ a.length
  · have h1 := dv_split a k h
    have h2 : 1 * dv (a.drop k) ≤ 10 ^ k * dv (a.drop k) := Nat.mul_le_mul_right _ (Nat.pow_pos (by decide))
    omega
  · rw [List.drop_of_length_le (by omega)]
    simp [dv]
def ShortI (a : List Nat) (n : Nat) (v s : Value) : Prop := ∃ q : Int, -1 ≤ q ∧ q < n ∧ s = .int .i64 q ∧ v = .int .u64 (dv (a.drop (q + 1).toNat) : Nat)
def NS (w0 : World) (a b : Int) (w : World) : Prop := HB w0 [(w0.heap.size, 25, #[.int .u64 a, .int .u64 b])] w
theorem nsMk {w0 w : World} {a b : Int} (h : NS w0 a b w) : NS w0 a b w ∧ w.cell? ⟨w0.heap.size, 0, none⟩ = some (.int .u64 a) ∧ w.cell? ⟨w0.heap.size, 1, none⟩ = some (.int .u64 b) :=
  ⟨h, (HB.two (t := 25) h (by simp)).2⟩
theorem ns0 (w0 : World) (a b : Int) : NS w0 a b (w0.alloc (.cells #[.int .u64 a, .int .u64 b] 25)) :=
  ⟨(Below.refl _ _).alloc (Nat.le_refl _) _, fun x hx => by simp at hx; subst hx; exact Blk.new _ _ _⟩
theorem v2_dig (a b : Int) : b.toNat * 18446744073709551616 + a.toNat = v2 a b := by unfold v2; omega
theorem pow64_20 {a : Int} (h : U64 a) : a.toNat < 10 ^ 20 := by unfold U64 at h; omega

theorem pow64_40 {a : Int} (h : U64 a) : a.toNat * 18446744073709551616 < 10 ^ 40 := by unfold U64 at h; omega

end Go.Proofs.YtkaflkofffgndaaDoor

namespace Go.Proofs.YtkaflkofffgndaaDoor
open Go.RowKit

def W2R (N : Nat) (s0 s1 : Int) (p : Bool) : Prop := N < 340282366920938463463374607431768211456 ∧ p = true ∧ U64 s0 ∧ U64 s1 ∧ v2 s0 s1 = N ∨ 340282366920938463463374607431768211456 ≤ N ∧ p = false ∧ s0 = 0 ∧ s1 = 0
theorem w2_no {N : Nat} (h : 18446744073709551616 ≤ N / 18446744073709551616) : W2R N 0 0 false := Or.inr ⟨by omega, rfl, rfl, rfl⟩
theorem w2_yes {N : Nat} (h : N / 18446744073709551616 < 18446744073709551616) : W2R N ((N % 18446744073709551616 : Nat) : Int) ((N / 18446744073709551616 : Nat) : Int) true := by
  refine Or.inl ⟨by omega, rfl, ?_, ?_, ?_⟩
  · unfold U64; omega
  · unfold U64; omega
  · unfold v2; rw [Int.toNat_natCast, Int.toNat_natCast]; omega
theorem rad20 : (18446744073709551616 : Nat) < 10 ^ 20 := by decide
theorem dv_le_pow {w : World} {A : Option Addr} {n cap : Nat} {ds : List Nat} (h : DigC w A n cap ds) : dv ds < 10 ^ n := by
  have := dv_lt h.2.2.2.1
  rwa [h.1] at this
theorem div_len {w : World} {A : Option Addr} {n cap m N : Nat} {ds : List Nat} (h : DigC w A n cap ds) (hn : Norm ds) (e : dv ds = N / 18446744073709551616) (hN : N < 10 ^ m) : n ≤ m :=
  lenA h hn (Nat.lt_of_le_of_lt (by rw [e]; exact Nat.div_le_self _ _) hN)

end Go.Proofs.YtkaflkofffgndaaDoor

namespace Go.Proofs.YtkaflkofffgndaaDoor
open Go.RowKit

theorem w2_fin {N : Nat} {s0 s1 : Int} {p : Bool} (h : W2R N s0 s1 p) (hN : N < 1000000000000000000000000000000) : U64 s0 ∧ U64 s1 ∧ v2 s0 s1 = N := by
  rcases h with ⟨_, _, a, b, e⟩ | ⟨hl, _⟩
  · exact ⟨a, b, e⟩
  · omega
theorem make_is {neg : Bool} {N n : Nat} {s0 s1 : Int} {ds : List Nat} {w : World} {A : Option Addr} {cap : Nat} (h : DigC w A n cap ds) (e : dv ds = N) (hn : Norm ds) (h0 : U64 s0) (h1 : U64 s1) (ev : v2 s0 s1 = N) : DecIs (neg && decide (0 < n)) s0 s1 (zOf neg N) := by
  refine ⟨?_, h0, h1, by rw [zOf_abs]; exact ev⟩
  rw [zOf_neg]
  congr 1
  rcases Nat.eq_zero_or_pos n with h2 | h2
  · have : N = 0 := by
      have h3 := h.1
      rw [h2] at h3
      rw [← e, List.eq_nil_of_length_eq_zero h3]
      rfl
    simp [h2, this]
  · have : N ≠ 0 := by
      intro hN
      have := lenA (k := 0) h hn (by rw [e, hN]; decide)
      omega
    simp [this]; omega

end Go.Proofs.YtkaflkofffgndaaDoor

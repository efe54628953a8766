/- Package pyxref1: DivNat. -/
import Derived.Test.YtipjeepcgdmomaaDoorRefH
import Derived.Laws.AppendOwnNone
namespace Go.Proofs.YtipjeepcgdmomaaDoor
open Go.RowKit

/-- From digit k on: qs times b, and rs is left. -/
def DivN (a b qs rs : List Nat) (k : Nat) : Prop := qs.length = a.length ∧ (∀ d ∈ qs, d < 10) ∧ (∀ t, t < k → qs.getD t 0 = 0) ∧ dv (a.drop k) = dv (qs.drop k) * dv b + dv rs
theorem divN_0 (a b : List Nat) : DivN a b (List.replicate a.length 0) [] a.length := by
  refine ⟨by simp, fun d hd => by rw [List.eq_of_mem_replicate hd]; decide, fun t _ => getD_rep _ t, ?_⟩
  simp [dv]
/-- The next digit comes down. -/
theorem divN_down {a b qs rs rs' : List Nat} {k : Nat} (h : DivN a b qs rs (k + 1)) (hk : k < a.length) (e : dv rs' = a.getD k 0 + 10 * dv rs) : DivN a b qs rs' k := by
  obtain ⟨h1, h2, h3, h4⟩ := h
  refine ⟨h1, h2, fun t ht => h3 t (by omega), ?_⟩
  rw [dv_drop a k hk, h4, dv_drop qs k (by omega), h3 k (by omega), Nat.zero_add, e, Nat.mul_assoc]
  omega
theorem dv_set_drop (l : List Nat) (k v : Nat) (hk : k < l.length) : dv ((l.set k v).drop k) + l.getD k 0 = dv (l.drop k) + v := by
  rw [dv_drop (l.set k v) k (by simpa using hk), dv_drop l k hk]
  have e1 : (l.set k v).getD k 0 = v := by simp [List.getD_eq_getElem?_getD, hk]
  have e2 : (l.set k v).drop (k + 1) = l.drop (k + 1) := by rw [List.drop_set_of_lt (by omega)]
  rw [e1, e2]
  omega
/-- Once more. -/
theorem divN_once {a b qs rs rs' : List Nat} {k : Nat} (h : DivN a b qs rs k) (hk : k < a.length) (hle : dv b ≤ dv rs) (e : dv rs' = dv rs - dv b) (h9 : qs.getD k 0 + 1 < 10) : DivN a b (qs.set k (qs.getD k 0 + 1)) rs' k := by
  obtain ⟨h1, h2, h3, h4⟩ := h
  refine ⟨by simpa using h1, mem_set_lt h2 h9, fun t ht => by rw [getD_set _ _ _ _ (by omega)]; exact h3 t ht, ?_⟩
  have hs := dv_set_drop qs k (qs.getD k 0 + 1) (by omega)
  have e2 : dv ((qs.set k (qs.getD k 0 + 1)).drop k) = dv (qs.drop k) + 1 := by omega
  rw [e2, h4, Nat.add_mul, Nat.one_mul]
  omega
theorem divN_end {a b qs rs : List Nat} (h : DivN a b qs rs 0) (hlt : dv rs < dv b) : dv qs = dv a / dv b ∧ dv rs = dv a % dv b := by
  obtain ⟨_, _, _, h4⟩ := h
  simp only [List.drop_zero] at h4
  have h5 : dv b * dv qs + dv rs = dv a := by rw [h4, Nat.mul_comm]
  constructor
  · rw [← h5, Nat.mul_add_div (by omega), Nat.div_eq_of_lt hlt, Nat.add_zero]
  · rw [← h5, Nat.mul_add_mod, Nat.mod_eq_of_lt hlt]
theorem norm_len {l : List Nat} {k : Nat} (h : Norm l) (hlt : dv l < 10 ^ k) : l.length ≤ k := by
  rcases h with rfl | h
  · simp
  · by_cases h0 : l = []
    · subst h0; simp
    · have h1 := dv_ge h0 h
      rcases Nat.lt_or_ge k l.length with c | c
      · have : 10 ^ k ≤ 10 ^ (l.length - 1) := Nat.pow_le_pow_right (by decide) (by omega)
        omega
      · exact c
theorem times_lt {t B r : Nat} (h : t * B + r < 10 * B) (hle : B ≤ r) : t + 1 < 10 := by
  rcases Nat.lt_or_ge (t + 1) 10 with c | c
  · exact c
  · have : 10 * B ≤ (t + 1) * B := Nat.mul_le_mul_right _ c
    rw [Nat.add_mul, Nat.one_mul] at this
    omega
theorem ten_lt {m B : Nat} (h : B < 10 ^ m) : 10 * B < 10 ^ (m + 1) := by rw [Nat.pow_succ]; omega
theorem own_below {w w' : World} {base : Nat} {e : TypeId} {size n : Nat} {v : Value} {xs : List Value} (h : w.ownsRow base e size v n xs) (hb : Below w.heap.size w w') : w'.ownsRow base e size v n xs := by
  refine ⟨h.1, ?_⟩
  rcases h.2 with h | ⟨g, cap, cur, hv, h1, hg, h2⟩
  · exact .inl h
  · have hlt : g < w.heap.size := by
      rcases Nat.lt_or_ge g w.heap.size with c | c
      · exact c
      · rw [Array.getElem?_eq_none c] at hg; cases hg
    exact .inr ⟨g, cap, cur, hv, h1, (hb.block g hlt).trans hg, h2⟩
/-- A store into another block leaves digits. -/
theorem DigC.far {w : World} {A : Option Addr} {n cap g j : Nat} {ds : List Nat} {u : Value} (h : DigC w A n cap ds) (hf : ∀ ad, A = some ad → g ≠ ad.block) : DigC (w.setCell ⟨g, j, none⟩ u) A n cap ds := by
  obtain ⟨h1, h2, h3, h4, h5⟩ := h
  refine ⟨h1, h2, h3, h4, fun hn => ?_⟩
  obtain ⟨b, off, e, hlt, hc⟩ := h5 hn
  refine ⟨b, off, e, by simpa using hlt, fun i hi => ?_⟩
  have := hf _ e
  rw [World.cell?_of_block (w := w) (Below.heap_setCell w ⟨g, j, none⟩ u b (fun h => this h.symm))]
  exact hc i hi
/-- Digits as the source of an append. -/
theorem DigC.src {w : World} {ad : Addr} {n cap : Nat} {ds : List Nat} (h : DigC w (some ad) n cap ds) : ∀ j u, (ds.map mkD_)[j]? = some u → w.cell? (ad.add j) = some u := by
  obtain ⟨h1, h2, h3, h4, h5⟩ := h
  intro j u hu
  have hj : j < ds.length := by
    have := (List.getElem?_eq_some_iff.1 hu).1
    simpa using this
  obtain ⟨b, off, e, hlt, hc⟩ := h5 (by omega)
  injection e with e
  subst e
  have e2 : (⟨b, off, none⟩ : Addr).add j = ⟨b, off + j, none⟩ := Addr.add_lit ..
  rw [e2, hc j (by omega)]
  simp [mkD_, hj] at hu
  rw [← hu]
  simp [List.getD_eq_getElem?_getD, hj]
/-- It returned two of them. -/
def RetQR (w : World) (Q R : Nat) (e : Ending) (w' : World) : Prop := ∃ (A : Option Addr) (n cap : Nat) (ds : List Nat) (A' : Option Addr) (n' cap' : Nat) (ds' : List Nat),
  (DigC w' A n cap ds ∧ Norm ds ∧ dv ds = Q ∧ ∀ ad, A = some ad → w.heap.size ≤ ad.block) ∧ (DigC w' A' n' cap' ds' ∧ Norm ds' ∧ dv ds' = R ∧ ∀ ad, A' = some ad → w.heap.size ≤ ad.block) ∧ e = .returned (.tuple #[.slice A n cap, .slice A' n' cap']) ∧ Below w.heap.size w w'
end Go.Proofs.YtipjeepcgdmomaaDoor

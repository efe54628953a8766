/- With more places behind the point a number's text is the same, and zeros: lists alone. -/
import Derived.Test.YtjpimiagcijejaaGreatDoorTextG
namespace Go.Proofs.YtjpimiagcijejaaGreatDoor
open Go.RowKit
theorem isDig_b {c : UInt8} (h : isDig c = true) : 48 ≤ c.toNat ∧ c.toNat ≤ 57 := by simpa [isDig] using h
theorem num_lt : ∀ (l : List UInt8), l.all isDig = true → numL l < 10 ^ l.length
  | [], _ => by simp [numL]
  | c :: l, h => by
    rw [List.all_cons, Bool.and_eq_true] at h
    have h1 := num_lt l h.2
    have h2 := isDig_b h.1
    rw [numL_cons, List.length_cons, Nat.pow_succ]
    have h3 := Nat.mul_le_mul_right (10 ^ l.length) (show c.toNat - 48 ≤ 9 by omega)
    omega
theorem num_ge {c : UInt8} {l : List UInt8} (h : isDig c = true) (hc : c ≠ 48) : 10 ^ l.length ≤ numL (c :: l) := by
  have h2 := isDig_b h
  have h4 : c.toNat ≠ 48 := fun e => hc (UInt8.toNat_inj.1 e)
  rw [numL_cons]
  have h3 := Nat.mul_le_mul_right (10 ^ l.length) (show 1 ≤ c.toNat - 48 by omega)
  omega
theorem digs_eq : ∀ (a b : List UInt8), a.length = b.length → a.all isDig = true → b.all isDig = true → numL a = numL b → a = b
  | [], [], _, _, _, _ => rfl
  | [], _ :: _, h, _, _, _ => by simp at h
  | _ :: _, [], h, _, _, _ => by simp at h
  | c :: a, d :: b, h, ha, hb, e => by
    rw [List.all_cons, Bool.and_eq_true] at ha hb
    have hl : a.length = b.length := by simpa using h
    have h1 := num_lt a ha.2
    have h2 := num_lt b hb.2
    rw [numL_cons, numL_cons, hl] at e
    rw [hl] at h1
    have hc := isDig_b ha.1
    have hd := isDig_b hb.1
    have e1 : c.toNat - 48 = d.toNat - 48 := by
      rcases Nat.lt_trichotomy (c.toNat - 48) (d.toNat - 48) with h | h | h
      · have := Nat.mul_le_mul_right (10 ^ b.length) (show c.toNat - 48 + 1 ≤ d.toNat - 48 by omega)
        rw [Nat.add_mul] at this
        omega
      · exact h
      · have := Nat.mul_le_mul_right (10 ^ b.length) (show d.toNat - 48 + 1 ≤ c.toNat - 48 by omega)
        rw [Nat.add_mul] at this
        omega
    rw [e1] at e
    have e2 : c = d := UInt8.toNat_inj.1 (by omega)
    rw [e2, digs_eq a b hl ha.2 hb.2 (by omega)]
theorem trim_head (c : UInt8) : ∀ (l : List UInt8), Lib.trimLeftB l c = [] ∨ ∃ x r, Lib.trimLeftB l c = x :: r ∧ x ≠ c
  | [] => .inl rfl
  | x :: l => by
    by_cases h : x = c
    · subst h
      have : Lib.trimLeftB (x :: l) x = Lib.trimLeftB l x := by simp [Lib.trimLeftB]
      rw [this]
      exact trim_head x l
    · refine .inr ⟨x, l, ?_, h⟩
      simp [Lib.trimLeftB, h]
/-- A number's digits, with none ahead that is 0. -/
def figT (N : Nat) : List UInt8 := Lib.trimLeftB (Lib.decDigits (N / 1000000000000000) ++ padL (Lib.decDigits (N % 1000000000000000)) 15) 48
theorem fig_is (N : Nat) (m : Int) : figL N m = padL (figT N) m := rfl
theorem figT_num (N : Nat) : numL (figT N) = N := by
  have := fig_num N 0
  rwa [fig_is, numL_pad] at this
theorem figT_dig (N : Nat) : (figT N).all isDig = true := trim_dig (by rw [List.all_append, dec_dig, pad_dig (dec_dig _)]; rfl)
theorem figT_zero : figT 0 = [] := by
  rcases trim_head 48 (Lib.decDigits (0 / 1000000000000000) ++ padL (Lib.decDigits (0 % 1000000000000000)) 15) with h | ⟨x, r, h, hx⟩
  · exact h
  · exfalso
    have h1 := figT_num 0
    have h2 := figT_dig 0
    unfold figT at h1 h2
    rw [h] at h1 h2
    rw [List.all_cons, Bool.and_eq_true] at h2
    have := num_ge (l := r) h2.1 hx
    have := Nat.pow_pos (n := r.length) (show 0 < 10 by decide)
    omega
theorem figT_len {N : Nat} (h : 0 < N) : ∃ k, (figT N).length = k + 1 ∧ 10 ^ k ≤ N ∧ N < 10 ^ (k + 1) := by
  have h1 := figT_num N
  have h2 := figT_dig N
  have h3 := num_lt _ h2
  rcases trim_head 48 (Lib.decDigits (N / 1000000000000000) ++ padL (Lib.decDigits (N % 1000000000000000)) 15) with h' | ⟨x, r, h', hx⟩
  · have e : figT N = [] := h'
    rw [e] at h1
    simp [numL] at h1
    omega
  · have e : figT N = x :: r := h'
    rw [e] at h1 h2 h3 ⊢
    rw [List.all_cons, Bool.and_eq_true] at h2
    have h4 := num_ge (l := r) h2.1 hx
    rw [h1] at h3 h4
    exact ⟨r.length, rfl, h4, by simpa using h3⟩
theorem figT_up {N k : Nat} (h : 0 < N) : (figT (N * 10 ^ k)).length = (figT N).length + k := by
  obtain ⟨a, ha, ha1, ha2⟩ := figT_len h
  obtain ⟨b, hb, hb1, hb2⟩ := figT_len (N := N * 10 ^ k) (Nat.mul_pos h (Nat.pow_pos (by decide)))
  have e1 : 10 ^ (a + k) ≤ N * 10 ^ k := by rw [Nat.pow_add]; exact Nat.mul_le_mul_right _ ha1
  have e2 : N * 10 ^ k < 10 ^ (a + 1 + k) := by rw [Nat.pow_add 10 (a + 1) k]; exact Nat.mul_lt_mul_of_pos_right ha2 (Nat.pow_pos (by decide))
  have l1 : a + k < b + 1 := (Nat.pow_lt_pow_iff_right (a := 10) (by decide)).1 (Nat.lt_of_le_of_lt e1 hb2)
  have l2 : b < a + 1 + k := (Nat.pow_lt_pow_iff_right (a := 10) (by decide)).1 (Nat.lt_of_le_of_lt hb1 e2)
  omega
theorem zeros_num (k : Nat) : numL (Lib.repeatL [48] k) = 0 := by
  have := numL_zeros [] k
  simpa [numL] using this
theorem zeros_len (k : Nat) : (Lib.repeatL [48] k).length = k := by rw [Lib.repeatL_length]; simp
theorem fig_up (N k : Nat) (m : Int) (hm : 1 ≤ m) : figL (N * 10 ^ k) (m + k) = figL N m ++ Lib.repeatL [48] k := by
  apply digs_eq
  · rw [List.length_append, zeros_len, fig_is, fig_is, padL_length, padL_length]
    rcases Nat.eq_zero_or_pos N with h | h
    · subst h
      rw [Nat.zero_mul, figT_zero]
      simp
      omega
    · rw [figT_up h]
      omega
  · exact fig_dig _ _
  · rw [List.all_append, fig_dig, zeros_dig]
    rfl
  · rw [fig_num, numL_app, fig_num, zeros_num, zeros_len]
    omega
/-- What is printed with k places more. -/
theorem print_up (n : Bool) (N k : Nat) (s : Int) (h0 : 0 ≤ s) (hk : 0 < k) : printL n (N * 10 ^ k) (s + k) = printL n N s ++ (if s = 0 then [46] else []) ++ Lib.repeatL [48] k := by
  have hf := fig_up N k (s + 1) (by omega)
  have hg := figL_ge N (s + 1)
  have e : s + (k : Int) + 1 = s + 1 + k := by omega
  have hd : dotL (figL (N * 10 ^ k) (s + k + 1)) (s + k) = dotL (figL N (s + 1)) s ++ (if s = 0 then [46] else []) ++ Lib.repeatL [48] k := by
    rw [e, hf]
    unfold dotL
    rw [if_neg (by omega), List.length_append, zeros_len]
    have e2 : (figL N (s + 1)).length + k - (s + (k : Int)).toNat = (figL N (s + 1)).length - s.toNat := by omega
    rw [e2, List.take_append_of_le_length (by omega), List.drop_append_of_le_length (by omega)]
    by_cases hs : s = 0
    · subst hs
      simp
    · simp [hs]
  unfold printL
  rw [hd]
  cases n <;> simp
end Go.Proofs.YtjpimiagcijejaaGreatDoor

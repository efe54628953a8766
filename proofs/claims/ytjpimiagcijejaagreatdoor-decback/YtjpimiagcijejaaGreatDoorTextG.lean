/- Package dec: what Print prints is what Read reads: the lists of bytes alone. -/
import Derived.Test.YtjpimiagcijejaaGreatDoorTextF
namespace Go.Proofs.YtjpimiagcijejaaGreatDoor
open Go.RowKit
theorem numL_cons (c : UInt8) (l : List UInt8) : numL (c :: l) = (c.toNat - 48) * 10 ^ l.length + numL l := by
  have h : ∀ (l : List UInt8) (a : Nat), l.foldl (fun n c => n * 10 + (c.toNat - 48)) a = a * 10 ^ l.length + l.foldl (fun n c => n * 10 + (c.toNat - 48)) 0 := by
    intro l
    induction l with
    | nil => intro a; simp
    | cons d l ih =>
      intro a
      simp only [List.foldl_cons, List.length_cons]
      rw [ih (a * 10 + (d.toNat - 48)), ih (0 * 10 + (d.toNat - 48)), Nat.pow_succ]
      rw [Nat.zero_mul, Nat.zero_add, Nat.add_mul, Nat.mul_assoc, Nat.mul_comm 10, Nat.add_assoc]
  unfold numL
  rw [List.foldl_cons, h]
  simp
theorem numL_app : ∀ (a b : List UInt8), numL (a ++ b) = numL a * 10 ^ b.length + numL b
  | [], b => by simp [numL]
  | c :: a, b => by
    rw [List.cons_append, numL_cons, numL_app a b, numL_cons, List.length_append, Nat.pow_add, Nat.add_mul, Nat.mul_assoc, Nat.add_assoc]
theorem numL_zeros (l : List UInt8) : ∀ k, numL (Lib.repeatL [48] k ++ l) = numL l
  | 0 => by simp [Lib.repeatL]
  | k + 1 => by
    have ih := numL_zeros l k
    show numL (48 :: (Lib.repeatL [48] k ++ l)) = _
    rw [numL_cons, ih]
    simp
theorem numL_pad (l : List UInt8) (m : Int) : numL (padL l m) = numL l := numL_zeros l _
theorem numL_trim : ∀ (l : List UInt8), numL (Lib.trimLeftB l 48) = numL l
  | [] => rfl
  | c :: l => by
    have ih := numL_trim l
    unfold Lib.trimLeftB at *
    by_cases hc : c = 48
    · subst hc
      rw [List.dropWhile_cons_of_pos (by simp), ih, numL_cons]
      simp
    · rw [List.dropWhile_cons_of_neg (by simpa using hc)]
theorem dig_of {d : Nat} (h : d < 10) : (UInt8.ofNat (48 + d)).toNat = 48 + d := by
  rw [UInt8.toNat_ofNat']; omega
theorem dec_num (u : Nat) : numL (Lib.decDigits u) = u := by
  induction u using Nat.strongRecOn with
  | _ u ih =>
    rw [Lib.decDigits]
    by_cases h : u < 10
    · rw [dif_pos h, numL_cons, dig_of h]
      simp [numL]
    · rw [dif_neg h, numL_app, ih (u / 10) (by omega), numL_cons, dig_of (by omega)]
      simp [numL]
      omega
theorem isDig_of {d : Nat} (h : d < 10) : isDig (UInt8.ofNat (48 + d)) = true := by
  unfold isDig; rw [dig_of h]; simp; omega
theorem dec_dig (u : Nat) : (Lib.decDigits u).all isDig = true := by
  induction u using Nat.strongRecOn with
  | _ u ih =>
    rw [Lib.decDigits]
    by_cases h : u < 10
    · rw [dif_pos h, List.all_cons, isDig_of h]; rfl
    · rw [dif_neg h, List.all_append, ih (u / 10) (by omega), List.all_cons, isDig_of (show u % 10 < 10 by omega)]
      rfl
theorem zeros_dig : ∀ k, (Lib.repeatL [48] k).all isDig = true
  | 0 => rfl
  | k + 1 => by
    show (48 :: Lib.repeatL [48] k).all isDig = true
    rw [List.all_cons, zeros_dig k]
    rfl
theorem pad_dig {l : List UInt8} (h : l.all isDig = true) (m : Int) : (padL l m).all isDig = true := by
  unfold padL; rw [List.all_append, zeros_dig, h]; rfl
theorem trim_dig {l : List UInt8} (h : l.all isDig = true) : (Lib.trimLeftB l 48).all isDig = true := by
  rw [List.all_eq_true] at *
  exact fun c hc => h c ((List.dropWhile_sublist _).subset hc)
theorem fig_dig (N : Nat) (m : Int) : (figL N m).all isDig = true := by
  unfold figL
  exact pad_dig (trim_dig (by rw [List.all_append, dec_dig, pad_dig (dec_dig _)]; rfl)) m
theorem dec_len15 {u : Nat} (h : u < 1000000000000000) : (Lib.decDigits u).length ≤ 15 := by
  rw [Lib.decDigits_length]; exact nDig_pow 14 u (Nat.lt_of_lt_of_le h (by decide))
theorem pad15 {u : Nat} (h : u < 1000000000000000) : (padL (Lib.decDigits u) 15).length = 15 := by
  have := dec_len15 h
  rw [padL_length]; omega
theorem fig_num (N : Nat) (m : Int) : numL (figL N m) = N := by
  have h : N % 1000000000000000 < 1000000000000000 := by omega
  unfold figL
  rw [numL_pad, numL_trim, numL_app, numL_pad, dec_num, dec_num, pad15 h]
  omega
theorem fig_len (N : Nat) (m : Int) (hN : N < 1000000000000000000000000000000) : ((figL N m).length : Int) ≤ max m 30 := by
  have h : N % 1000000000000000 < 1000000000000000 := by omega
  have h' : N / 1000000000000000 < 1000000000000000 := by omega
  have l1 := dec_len15 h'
  have l3 := trimLeftB_le (Lib.decDigits (N / 1000000000000000) ++ padL (Lib.decDigits (N % 1000000000000000)) 15) 48
  rw [List.length_append, pad15 h] at l3
  unfold figL
  rw [padL_length]
  omega
/-- The printed text is a text of Read's: whole digits W, the part's digits P. -/
theorem print_read (n : Bool) (N : Nat) (s : Int) (hN : N < 1000000000000000000000000000000) (h0 : 0 ≤ s) (h9 : s ≤ 9) :
    ∃ W P : List UInt8, printL n N s = readL n W P ∧ 1 ≤ W.length ∧ W.length ≤ 30 ∧ W.all isDig = true ∧ P.all isDig = true ∧ (P.length : Int) = s ∧ numL (W ++ P) = N := by
  have q1 := figL_ge N (s + 1)
  have q2 := fig_len N (s + 1) hN
  have q3 := fig_dig N (s + 1)
  have q4 := fig_num N (s + 1)
  refine ⟨(figL N (s + 1)).take ((figL N (s + 1)).length - s.toNat), (figL N (s + 1)).drop ((figL N (s + 1)).length - s.toNat), ?_, ?_, ?_, ?_, ?_, ?_, ?_⟩
  · unfold printL readL
    have e : dotL (figL N (s + 1)) s = tailL ((figL N (s + 1)).take ((figL N (s + 1)).length - s.toNat)) ((figL N (s + 1)).drop ((figL N (s + 1)).length - s.toNat)) := by
      generalize figL N (s + 1) = L at *
      unfold dotL tailL
      by_cases hs : s = 0
      · subst hs
        simp
      · have hd : ¬ L.drop (L.length - s.toNat) = [] := by
          intro h
          have := congrArg List.length h
          simp at this
          omega
        rw [if_neg hs, if_neg hd]
        simp
    rw [e]
  · simp; omega
  · simp; omega
  · rw [List.all_eq_true] at *
    exact fun c hc => q3 c (List.mem_of_mem_take hc)
  · rw [List.all_eq_true] at *
    exact fun c hc => q3 c (List.mem_of_mem_drop hc)
  · simp; omega
  · rw [List.take_append_drop]; exact q4
end Go.Proofs.YtjpimiagcijejaaGreatDoor

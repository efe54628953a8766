/- Package roll, plainly: what is laid is found; what is torn, or turned, is not. -/
import Derived.Test.YtkjckdndkljeeaaRollI
import Derived.Test.YtkjckdndkljeeaaMarkP
namespace Go.Proofs.Ytkjckdndkljeeaa
open Go.RowKit
theorem b256 (x : Nat) : (UInt8.ofNat (x % 256)).toNat = x % 256 := u8_of _ (by omega)
theorem be_step {h : Nat} (D E : Nat) (hE : E = D * 256) (hh : h < 18446744073709551616) : h / E * 256 % 18446744073709551616 + h / D % 256 = h / D := by
  subst hE
  rw [← Nat.div_div_eq_div_mul]
  have : h / D ≤ h := Nat.div_le_self _ _
  generalize h / D = y at *
  omega
set_option maxRecDepth 100000 in
theorem numB_be8 {h : Nat} (hh : h < 18446744073709551616) : numB (be8 h) = h := by
  unfold numB be8
  simp only [List.foldl_cons, List.foldl_nil, b256]
  have e0 : 0 * 256 % 18446744073709551616 + h / 72057594037927936 % 256 = h / 72057594037927936 := by omega
  have e1 := be_step 281474976710656 72057594037927936 (by decide) hh
  have e2 := be_step 1099511627776 281474976710656 (by decide) hh
  have e3 := be_step 4294967296 1099511627776 (by decide) hh
  have e4 := be_step 16777216 4294967296 (by decide) hh
  have e5 := be_step 65536 16777216 (by decide) hh
  have e6 := be_step 256 65536 (by decide) hh
  have e7 : h / 256 * 256 % 18446744073709551616 + h % 256 = h := by omega
  rw [e0, e1, e2, e3, e4, e5, e6, e7]
theorem be8_inj {g h : Nat} (hg : g < 18446744073709551616) (hh : h < 18446744073709551616) (e : be8 g = be8 h) : g = h := by rw [← numB_be8 hg, ← numB_be8 hh, e]
theorem sgnB_small {h : Nat} (hh : h < 9223372036854775808) : sgnB h = h := by unfold sgnB; rw [if_pos hh]
/-- A record that may be laid. -/
def RecOk (r : Rec) : Prop := 0 ≤ r.seq ∧ r.seq ≤ 9223372036854775807 ∧ r.body.length ≤ 420
theorem txtB_enc (t : List UInt8) (h : t.length ≤ 1000000) : txtB (enc (zig (t.length : Int)) ++ t) = some t := by
  have hz : zig (t.length : Int) < 18446744073709551616 := zig_lt (by omega) (by omega)
  have hr := rd_enc' (u := zig (t.length : Int)) t hz
  have hs : firstS (enc (zig (t.length : Int)) ++ t) = (enc (zig (t.length : Int))).length := by unfold firstS; rw [hr]
  have hn : firstN (enc (zig (t.length : Int)) ++ t) = (t.length : Int) := by unfold firstN; rw [hr]; simp only; rw [zag_zig]
  have hl := enc_len (zig (t.length : Int))
  unfold txtB
  rw [if_neg (by rw [hs, hn, List.length_append]; omega), hs]
  simp
theorem lenB_head {n : Nat} (h : n < 16384) (l : List UInt8) : lenB (headB n ++ l) = n := by
  unfold headB
  simp only [List.cons_append, List.nil_append, lenB]
  rw [u8_of _ (by omega), u8_of _ (by omega), if_neg (by omega)]
  omega
theorem headB_len (n : Nat) : (headB n).length = 2 := rfl
theorem frame_parts (o : Nat) (r : Rec) (l : List UInt8) : frameB o r ++ l = headB (tailB r).length ++ (be8 (sumM o (tailB r)) ++ (tailB r ++ l)) := by
  unfold frameB
  simp only [List.append_assoc]
theorem tailB_small {r : Rec} (h : r.body.length ≤ 420) : (tailB r).length < 16384 ∧ 10 ≤ (tailB r).length := by
  have h1 := tailB_len r
  have h2 := enc_len (zig (r.body.length : Int))
  omega
theorem frame_mark (o : Nat) (r : Rec) (l : List UInt8) : ((frameB o r ++ l).drop 2).take 8 = be8 (sumM o (tailB r)) := by
  rw [frame_parts, List.drop_left' (headB_len _), List.take_left' (be8_len _)]
theorem frame_tail (o : Nat) (r : Rec) (l : List UInt8) : ((frameB o r ++ l).drop 10).take (tailB r).length = tailB r := by
  rw [frame_parts, show (10 : Nat) = 2 + 8 from rfl, ← List.drop_drop, List.drop_left' (headB_len _), List.drop_left' (be8_len _), List.take_left' rfl]
theorem getD_app_lt {l m : List UInt8} {k : Nat} (h : k < l.length) : (l ++ m).getD k 0 = l.getD k 0 := by simp [List.getD_eq_getElem?_getD, List.getElem?_append_left h]
theorem getD_app_ge {l m : List UInt8} {k : Nat} (h : l.length ≤ k) : (l ++ m).getD k 0 = m.getD (k - l.length) 0 := by simp [List.getD_eq_getElem?_getD, List.getElem?_append_right h]
theorem getD_zeros (n k : Nat) : (List.replicate n (0 : UInt8)).getD k 0 = 0 := by
  rw [List.getD_eq_getElem?_getD, List.getElem?_replicate]
  split <;> rfl
theorem tail_last (r : Rec) : (tailB r).getD ((tailB r).length - 1) 0 = 255 := by
  have e : ∀ X : List UInt8, (X ++ [255]).getD ((X ++ [255]).length - 1) 0 = 255 := fun X => by
    rw [show (X ++ [(255 : UInt8)]).length - 1 = X.length by simp, getD_app_ge (Nat.le_refl _), Nat.sub_self]
    rfl
  exact e _
theorem take_init (X : List UInt8) (c : UInt8) : (X ++ [c]).take ((X ++ [c]).length - 1) = X := by
  rw [show (X ++ [c]).length - 1 = X.length by simp, List.take_left' rfl]
theorem tail_seq {r : Rec} (h0 : 0 ≤ r.seq) (h1 : r.seq ≤ 9223372036854775807) : sgnB (numB ((tailB r).take 8)) = r.seq := by
  have e : (tailB r).take 8 = be8 r.seq.toNat := by
    unfold tailB
    simp only [List.append_assoc]
    rw [List.take_left' (be8_len _)]
  rw [e, numB_be8 (by omega), sgnB_small (by omega)]
  omega
theorem tail_text (r : Rec) : ((tailB r).take ((tailB r).length - 1)).drop 8 = enc (zig (r.body.length : Int)) ++ r.body := by
  have e : (tailB r).take ((tailB r).length - 1) = be8 r.seq.toNat ++ enc (zig (r.body.length : Int)) ++ r.body := take_init _ _
  rw [e, List.append_assoc, List.drop_left' (be8_len _)]
/-- What is laid is found. -/
theorem wholeB_frame {o : Nat} {r : Rec} {last : Int} (l : List UInt8) (h : RecOk r) (hl : last < r.seq) : wholeB (frameB o r ++ l) o last = some (r, (frameB o r).length) := by
  obtain ⟨h0, h1, h2⟩ := h
  obtain ⟨t1, t2⟩ := tailB_small h2
  have hlen : lenB (frameB o r ++ l) = (tailB r).length := by rw [frame_parts]; exact lenB_head t1 _
  unfold wholeB
  rw [hlen, if_neg (by rw [List.length_append, frameB_len]; omega), frame_tail, frame_mark, if_neg (by rw [tail_last]; simp), tail_seq h0 h1, if_neg (by omega), tail_text, txtB_enc _ (by omega), frameB_len]
/-- Bytes that begin no record. -/
theorem wholeB_zero {l : List UInt8} {o : Nat} {last : Int} (h : l = [] ∨ l.getD 0 0 = 0) : wholeB l o last = none := by
  have : lenB l = 0 := by
    match l, h with
    | [], _ => rfl
    | [_], _ => rfl
    | x :: y :: l, h =>
      have hx : x = 0 := by rcases h with h | h; cases h; simpa using h
      subst hx
      simp [lenB]
  unfold wholeB
  rw [if_pos (by omega)]
/-- A record that is torn, on 0s, begins none. -/
theorem wholeB_torn {o k m : Nat} {r : Rec} {last : Int} (h : RecOk r) (hk : k < (frameB o r).length) (hm : (frameB o r).length - k ≤ m) : wholeB ((frameB o r).take k ++ List.replicate m 0) o last = none := by
  obtain ⟨h0, h1, h2⟩ := h
  obtain ⟨t1, t2⟩ := tailB_small h2
  have hf := frameB_len o r
  rcases (show k = 0 ∨ k = 1 ∨ 2 ≤ k by omega) with rfl | rfl | hk2
  · refine wholeB_zero (.inr ?_)
    simp only [List.take_zero, List.nil_append]
    exact getD_zeros _ _
  · have e : ∃ x, (frameB o r).take 1 = [x] := by
      unfold frameB headB
      exact ⟨_, rfl⟩
    obtain ⟨x, e⟩ := e
    rw [e]
    have : lenB ([x] ++ List.replicate m 0) = 0 := by
      obtain ⟨m', rfl⟩ : ∃ m', m = m' + 1 := ⟨m - 1, by omega⟩
      simp [List.replicate_succ, lenB]
    unfold wholeB
    rw [if_pos (by omega)]
  · have hlen : lenB ((frameB o r).take k ++ List.replicate m 0) = (tailB r).length := by
      have e : (frameB o r).take k = headB (tailB r).length ++ (be8 (sumM o (tailB r)) ++ tailB r).take (k - 2) := by
        unfold frameB
        rw [List.append_assoc, List.take_append]
        rw [List.take_of_length_le (by rw [headB_len]; omega), headB_len]
      rw [e, List.append_assoc]
      exact lenB_head t1 _
    unfold wholeB
    rw [hlen, if_neg (by rw [List.length_append, List.length_take, List.length_replicate]; omega), if_pos]
    left
    rw [List.getD_eq_getElem?_getD, List.getElem?_take_of_lt (by omega), List.getElem?_drop, ← List.getD_eq_getElem?_getD, getD_app_ge (by rw [List.length_take]; omega), getD_zeros]
    decide
end Go.Proofs.Ytkjckdndkljeeaa

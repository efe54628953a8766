/- Package pack: ReadInt, Text, ReadText. -/
import Derived.Test.YtkjckdndkljeeaaPackE
namespace Go.Proofs.Ytkjckdndkljeeaa
open Go.RowKit
/-- What stands from place k on, in the two forms in which the walk has it. -/
theorem Bs.cut_yes {w : World} {B n c k : Nat} {A : Option Addr} {l : List UInt8} (h : Bs w B A n c l) (hk : k ≤ n) (e : c = k) : Bs w B A (n - k) (c - k) (l.drop k) := by
  have := h.cut hk
  rwa [if_pos e] at this
theorem Bs.cut_no {w : World} {B n c k : Nat} {A : Option Addr} {l : List UInt8} (h : Bs w B A n c l) (hk : k ≤ n) (e : ¬ c = k) : Bs w B (A.map (·.add k)) (n - k) (c - k) (l.drop k) := by
  have := h.cut hk
  rwa [if_neg e] at this
theorem own_of {w : World} {B n : Nat} {v : Value} {l : List UInt8} (h : w.ownsRow B 5 1 v n (Lib.byteCells l)) (h0 : 0 < n) : ∃ g c, v = .slice (some ⟨g, 0, none⟩) n c ∧ Own w B g n c l := by
  have hl : l.length = n := by have := h.1; rw [Lib.byteCells_length] at this; omega
  rcases h.2 with ⟨rfl, e⟩ | ⟨g, c, cur, rfl, rest⟩
  · omega
  · exact ⟨g, c, rfl, hl, h⟩
theorem strCells_of (t : List UInt8) : Lib.strCells ⟨t.toArray⟩ = Lib.byteCells t := rfl
theorem size_of (t : List UInt8) : (⟨t.toArray⟩ : ByteArray).size = t.length := rfl
set_option maxRecDepth 100000 in
set_option maxHeartbeats 800000 in
theorem text_c (A : Option Addr) (n c : Nat) (l t : List UInt8) (w : World) (hl : Bs w w.heap.size A n c l) (hm : n + 10 + t.length ≤ 140737488355328) :
    Calls Try.prog 46 #[.slice A n c, .string ⟨t.toArray⟩] w fun e w' => ∃ g n' c', e = .returned (.slice (some ⟨g, 0, none⟩) n' c') ∧ Own w' w.heap.size g n' c' (l ++ enc (zig t.length) ++ t) ∧ Below w.heap.size w w' := by
  obtain ⟨i0, hi, hz0, hz1, hz2⟩ := info_parts Try.i8
  have HL := Lib.hid hl
  clear hl
  obtain ⟨m, hmE⟩ : ∃ m, t.length = m := ⟨_, rfl⟩
  rw [hmE] at hm
  have hsz : (⟨t.toArray⟩ : ByteArray).size = m := hmE
  obtain ⟨q, hq⟩ : ∃ q, (enc (zig (m : Int))).length = q := ⟨_, rfl⟩
  have hq10 : 1 ≤ q ∧ q ≤ 10 := by rw [← hq]; exact enc_len _
  obtain ⟨q1, q2⟩ := hq10
  have HQ := Lib.hid hq
  have HM := Lib.hid hmE
  clear hq hmE
  go_enter Try.func46, Try.ntmps46
  go_wp2_with fail
  (with_reducible refine (roomy_c A n c l (10 + (m : Int)) (10 + m) _ (by omega) HL.out (by omega)).mono ?_)
  rintro e w1 ⟨rfl, ho, hb⟩
  have HO := Lib.hid ho
  have HB := Lib.hid hb
  clear ho hb
  go_wp2_with fail
  (with_reducible refine (number_c w.heap.size w.heap.size n (n + (10 + m)) l (m : Int) _ (by omega) (by omega) HO.out (by omega)).mono ?_)
  rintro e w2 ⟨rfl, ho, hg⟩
  rw [HQ.out] at ho
  rw [HQ.out]
  have HO2 := Lib.hid ho
  have HG := Lib.hid hg
  have HB2 := Lib.hid (HB.out.grown hg HB.out.size (fun k hk => by cases hk; exact Nat.le_refl _))
  clear ho hg
  go_wp2_with (at_builtin; refine Lib.wpList_append_own_string _ rfl (.tmp 12) (.tmp 13) _ 9 rfl w.heap.size 5 i0 Try.u42 Try.underlying9 hi hz0 hz1 hz2 (.slice (some ⟨w.heap.size, 0, none⟩) (n + q) (n + (10 + m))) (n + q) (Lib.byteCells (l ++ enc (zig (m : Int)))) rfl HO2.out.2 ⟨t.toArray⟩ rfl (by rw [hsz]; unfold maxLen; omega) (by rw [hsz]; omega) HB2.out.size ?_; intro v3 w3 hown3 hgrow3 _)
  go_ret
  rw [strCells_of, ← Lib.byteCells_append, hsz] at hown3
  obtain ⟨g, c', rfl, hO⟩ := own_of hown3 (by omega)
  refine ⟨g, n + q + m, c', rfl, ?_, HB2.out.grown hgrow3 HB2.out.size (fun k hk => by cases hk; exact Nat.le_refl _)⟩
  rw [HM.out]
  exact hO
set_option maxRecDepth 100000 in
set_option maxHeartbeats 800000 in
theorem readText_no (A : Option Addr) (n c : Nat) (l : List UInt8) (w : World) (hl : Bs w w.heap.size A n c l) (hn : n ≤ 281474976710656) (h0 : firstS l = 0 ∨ firstN l < 0 ∨ (n : Int) - firstS l < firstN l) :
    Calls Try.prog 56 #[.slice A n c] w fun e w' => e = .returned (.tuple #[.string ⟨#[]⟩, .slice none 0 0, .int .i64 2]) ∧ w = w' := by
  have HL := Lib.hid hl
  have hsl := firstS_le l
  have hlen := hl.len
  obtain ⟨f1, f2⟩ := firstN_le l
  obtain ⟨x, hx⟩ : ∃ x, firstN l = x := ⟨_, rfl⟩
  obtain ⟨s, hs⟩ : ∃ s, firstS l = s := ⟨_, rfl⟩
  rw [hx, hs] at h0
  rw [hx] at f1 f2
  rw [hs] at hsl
  have hsn : s ≤ n := by omega
  have HX := Lib.hid hx
  have HS := Lib.hid hs
  clear hl hx hs hsl hlen
  by_cases c0 : s = 0
  · have hz : ((s : Int) == 0) = true := by simp; omega
    clear h0
    go_enter Try.func56, Try.ntmps56
    go_wp2_with fail
    refine (first_c A n c l _ w.heap.size HL.out hn).mono ?_
    rintro e w' ⟨rfl, rfl⟩
    rw [HX.out, HS.out]
    clear c0
    go_wp2
    go_ret3
    exact ⟨rfl, rfl⟩
  · have hz : ((s : Int) == 0) = false := by simp; omega
    by_cases c1 : x < 0
    · clear h0
      go_enter Try.func56, Try.ntmps56
      go_wp2_with fail
      refine (first_c A n c l _ w.heap.size HL.out hn).mono ?_
      rintro e w' ⟨rfl, rfl⟩
      rw [HX.out, HS.out]
      clear c0
      go_wp2
      go_ret3
      exact ⟨rfl, rfl⟩
    · have c2 : (n : Int) - (s : Int) < x := by omega
      have c1' : 0 ≤ x := by omega
      clear h0
      go_enter Try.func56, Try.ntmps56
      go_wp2_with fail
      refine (first_c A n c l _ w.heap.size HL.out hn).mono ?_
      rintro e w' ⟨rfl, rfl⟩
      rw [HX.out, HS.out]
      clear c0 c1
      go_wp2
      go_ret3
      exact ⟨rfl, rfl⟩
end Go.Proofs.Ytkjckdndkljeeaa

/- What the statements of pack use: string(b), numbers behind nothing, the chapter's example. -/
import Derived.Test.YtnefckiaojhcdaaPackF
namespace Go.Proofs.Ytnefckiaojhcdaa
open Go.RowKit
theorem Try.u8_is : Try.prog.underlying 5 = some (.int .u8) := Try.underlying5
theorem str_run {w : World} {B n c : Nat} {A : Option Addr} {l : List UInt8} (h : Bs w B A n c l) : (convert 42 9 (.slice A n c)).run Try.prog w = .ok (.string ⟨l.toArray⟩) w := by
  have hl := h.len
  cases A with
  | none =>
    have h0 : n = 0 := by have := h.2.2.1 rfl; have := h.room; omega
    subst h0
    obtain rfl : l = [] := List.eq_nil_of_length_eq_zero hl
    rw [run_convert_bytes_string w 42 9 5 none 0 c Try.u42 Try.u8_is Try.underlying9]
    rfl
  | some a =>
    subst hl
    refine run_convert_bytes_back w 42 9 5 a c l Try.u42 Try.u8_is Try.underlying9 fun j hj => ?_
    obtain ⟨g, o, e, _, hc⟩ := h.2.2.2 (by omega)
    cases e
    rw [Addr.add_lit]
    exact hc j hj
theorem int_nil (x : Int) (q : Nat) (w : World) (h0 : -9223372036854775808 ≤ x) (h1 : x ≤ 9223372036854775807) (hq : (enc (zig x)).length = q) :
    Calls Try.prog 28 #[.slice none 0 0, .int .i64 x] w fun e w' => e = .returned (.slice (some ⟨w.heap.size, 0, none⟩) q 10) ∧ Own w' w.heap.size w.heap.size q 10 (enc (zig x)) ∧ Below w.heap.size w w' :=
  (int_c none 0 0 [] x w h0 h1 (Bs.nil_ _ _) (by omega)).mono fun e w' ⟨he, ho, hb⟩ => by
    rw [Nat.zero_add, hq, Nat.zero_add] at ho
    rw [Nat.zero_add, hq] at he
    exact ⟨he, ho, hb⟩
theorem enc_m1 : enc (zig (-1)) = [1] := by decide
theorem enc_300 : enc (zig 300) = [216, 4] := by decide
theorem enc_m1_len : (enc (zig (-1))).length = 1 := by decide
theorem enc_300_len : (enc (zig 300)).length = 2 := by decide
set_option maxRecDepth 100000 in
set_option maxHeartbeats 800000 in
theorem known4_c (w : World) : Calls Try.prog 29 #[] w fun e w' => e = .returned (.bool true) ∧ Below w.heap.size w w' := by
  go_enter Try.func29, Try.ntmps29
  go_wp2_with fail
  (with_reducible refine (int_nil (-1) 1 _ (by decide) (by decide) enc_m1_len).mono ?_)
  rintro e w1 ⟨rfl, ho, hb⟩
  rw [enc_m1] at ho
  have HB := Lib.hid hb
  have hc := str_run ho.bs
  clear ho hb
  go_wp2_with fail
  (with_reducible refine (int_nil 300 2 _ (by decide) (by decide) enc_300_len).mono ?_)
  rintro e w2 ⟨rfl, ho, hb⟩
  rw [enc_300] at ho
  have HB2 := Lib.hid (HB.out.trans (hb.mono HB.out.size))
  have hc2 := str_run ho.bs
  clear ho hb hc
  go_wp2
  go_ret
  exact ⟨rfl, HB2.out⟩
end Go.Proofs.Ytnefckiaojhcdaa

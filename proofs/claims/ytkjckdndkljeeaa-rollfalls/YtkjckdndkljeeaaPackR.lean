/- pyxref4: Int, Text. -/
import Derived.Test.YtkjckdndkljeeaaPackN
import Derived.Deep.CutBlock
import Derived.Deep.DeepCutAuto
namespace Go.Proofs.Ytkjckdndkljeeaa
open Go.RowKit
theorem wpList_append_bs (w : World) {ops : Array Oper} {rest : List Oper} {o : Oper} {a : Act} {Q : Exit → Act → World → Prop} (hgd : o.guard = none) (s x : Operand) (t : TypeId)
    (ho : o.op = .call { callee := .builtin .append, args := #[s, x], argTypes := #[t, t] }) (ht : Try.prog.underlying t = some (.slice 5)) (base : Nat) (v : Value) (n : Nat) (xs : List UInt8) (hs : a.eval s = v) (hown : w.ownsRow base 5 1 v n (Lib.byteCells xs))
    (B : Nat) (A : Option Addr) (m c : Nat) (l : List UInt8) (hx : a.eval x = .slice A m c) (hl : Bs w B A m c l) (hb : n + m ≤ 140737488355328) (hbase : base ≤ w.heap.size)
    (h : ∀ v' w', w'.ownsRow base 5 1 v' (n + m) (Lib.byteCells (xs ++ l)) → w.grownBy w' v.ownBlock → (v ≠ .slice none 0 0 → v' ≠ .slice none 0 0) → wpList Try.prog ops Q rest (a.put o.dst v') w') : wpList Try.prog ops Q (o :: rest) a w := by
  obtain ⟨i0, hi, hz0, hz1, hz2⟩ := info_parts Try.i8
  cases A with
  | none =>
    obtain rfl : c = 0 := hl.2.2.1 rfl
    obtain rfl : m = 0 := by have := hl.room; omega
    obtain rfl : l = [] := List.eq_nil_of_length_eq_zero hl.len
    exact wpList_append_own_none hgd s x t ho base 5 i0 1 ht hi v n _ hs hown hx (h v w (by simpa using hown) (World.grownBy.refl _ _) (fun h => h))
  | some ad =>
    refine wpList_append_own w hgd s x t ho base 5 i0 (.int .u8 0) 1 1 ht hi hz0 hz1 hz2 rfl (by decide) v n _ hs hown ad m c (Lib.byteCells l) hx (by rw [Lib.byteCells_length, hl.len, Nat.mul_one]) (hl.news ad rfl) (byteCells_ones _) (by unfold maxLen; omega) (by omega) hbase fun v' w' h1 h2 h3 => ?_
    rw [← Lib.byteCells_append] at h1
    exact h v' w' h1 h2 (fun hn e => hn (h3.1 e).1)
theorem zig_two {x : Int} (h0 : -9223372036854775808 ≤ x) (h1 : x ≤ 9223372036854775807) : (x < 0 → -(x + 1) * 2 + 1 = (zig x : Int)) ∧ (¬ x < 0 → x * 2 = (zig x : Int)) := by
  unfold zig
  constructor
  · intro h
    rw [if_pos h]
    omega
  · intro h
    rw [if_neg h]
    omega
def RefRel (w : World) (k0 : Nat) (l : List UInt8) (u0 : Nat) (v x : Value) (wr : World) : Prop :=
  ∃ (f u k g c : Nat) (pre : List UInt8), v = .slice (some ⟨g, 0, none⟩) k c ∧ x = .int .u64 (u : Int) ∧ k = k0 + pre.length ∧ enc u0 = pre ++ encF f u ∧ f + pre.length = 9 ∧ u * 128 ^ pre.length < 18446744073709551616 ∧ u < 18446744073709551616 ∧ Own wr w.heap.size g k c (l ++ pre) ∧ Below w.heap.size w wr
theorem ref_next {w w1 : World} {k0 k f u : Nat} {v' : Value} {l pre : List UInt8} {u0 : Nat} (hk : k = k0 + pre.length) (henc : enc u0 = pre ++ encF f u) (hf : f + pre.length = 9) (hub : u * 128 ^ pre.length < 18446744073709551616) (hu : u < 18446744073709551616)
    (hge : ¬ u < 128) (hown' : w1.ownsRow w.heap.size 5 1 v' (k + 1) (Lib.byteCells (l ++ pre) ++ [.int .u8 ((u : Int) % 128 + 128)])) (hb : Below w.heap.size w w1) :
    RefRel w k0 l u0 v' (.int .u64 ((u : Int) / 128)) w1 := by
  cases f with
  | zero =>
    have hp : pre.length = 9 := by omega
    rw [hp] at hub
    have := small9 hub
    omega
  | succ f =>
    rw [encF_ge _ _ hge] at henc
    have hc : Lib.byteCells [UInt8.ofNat (u % 128 + 128)] = [.int .u8 ((u : Int) % 128 + 128)] := by
      unfold Lib.byteCells
      rw [List.map_cons, List.map_nil, u8_of _ (by omega)]
      rfl
    rw [← hc, ← Lib.byteCells_append] at hown'
    obtain ⟨g, c, rfl, hO⟩ := own_of hown' (by omega)
    refine ⟨f, u / 128, k + 1, g, c, pre ++ [UInt8.ofNat (u % 128 + 128)], rfl, by congr 1, by rw [List.length_append, hk]; rfl, by rw [henc, List.append_assoc]; rfl, by rw [List.length_append]; simp; omega, ?_, by omega, ?_, hb⟩
    · rw [List.length_append]
      exact step_lt hub
    · rw [← List.append_assoc]
      exact hO
set_option maxRecDepth 100000 in
set_option maxHeartbeats 1600000 in
theorem refInt_c (A : Option Addr) (n c : Nat) (l : List UInt8) (x : Int) (w : World) (h0 : -9223372036854775808 ≤ x) (h1 : x ≤ 9223372036854775807) (hl : Bs w w.heap.size A n c l) (hm : n + 10 ≤ 140737488355328) :
    Calls Try.prog 62 #[.slice A n c, .int .i64 x] w (Cp w (n + (enc (zig x)).length) (l ++ enc (zig x))) := by
  obtain ⟨i0, hi, hz0, hz1, hz2⟩ := info_parts Try.i8
  have HL := Lib.hid hl
  have HU0 := Lib.hid (zig_lt h0 h1)
  clear hl
  by_cases hn : x < 0
  · go_enter Try.func62, Try.ntmps62
    go_wp2_with (at_builtin; refine wpList_append_bs _ rfl (.tmp 7) (.tmp 8) _ rfl Try.u42 w.heap.size (.slice (some ⟨w.heap.size, 0, none⟩) 0 0) 0 [] rfl (own_zero w) w.heap.size A n c l rfl (HL.out.alloc (Nat.le_refl _) _) (by omega) (by simp) ?_; intro v1 w1 hown hgrow hnil)
    rw [Nat.zero_add, List.nil_append] at hown
    obtain ⟨g1, c1, rfl, hO⟩ := own_ne hown (hnil (by simp))
    have HO1 := Lib.hid hO
    have HB1 := Lib.hid (show Below w.heap.size w w1 from ((Below.refl _ _).alloc (Nat.le_refl _) _).grown hgrow (by simp) (fun k hk => by cases hk; exact Nat.le_refl _))
    have HZ := Lib.hid (zig_two h0 h1)
    clear hown hgrow hnil hO
    go_loopw [5, 6] (fun v y wr => RefRel w n l (zig x) v y wr) (fun _ y _ => (intOf y).toNat)
    case atStart => exact ⟨9, zig x, n, g1, c1, [], rfl, by first | exact congrArg _ (HZ.out.1 (by omega)) | exact congrArg _ (HZ.out.2 (by omega)), by simp, by simp [enc], rfl, by simpa using HU0.out, HU0.out, by simpa using HO1.out, HB1.out⟩
    case round =>
      obtain ⟨f, u, k, g, c2, pre, rfl, rfl, hk, henc, hf, hub, hu, ho, hb⟩ := hrel
      have HK := Lib.hid hk
      have HE := Lib.hid henc
      have HF := Lib.hid hf
      have HUB := Lib.hid hub
      have HU := Lib.hid hu
      have HO := Lib.hid ho
      have HB := Lib.hid hb
      have hkb : k + 1 ≤ 140737488355328 := by omega
      clear hk henc hf hub hu ho hb h0 h1 HO1 HB1
      by_cases hlt : u < 128
      · have hlt' : (u : Int) < 128 := by omega
        go_wp2_with (at_builtin; refine wpList_append_own _ rfl (.tmp 32) (.tmp 35) _ rfl w.heap.size 5 i0 (.int .u8 0) 1 1 Try.u42 hi hz0 hz1 hz2 rfl (by decide) (.slice (some ⟨g, 0, none⟩) k c2) k (Lib.byteCells (l ++ pre)) rfl (HO.out.2.alloc _) ⟨wr.heap.size, 0, none⟩ 1 1 [.int .u8 (u : Int)] rfl rfl (one_news _ _ _) (one_ones _) (by unfold maxLen; omega) (by omega) (by have := HB.out.size; simp; omega) ?_; intro v3 w3 hown3 hgrow3 _)
        go_ret
        have e : encF f u = [UInt8.ofNat u] := encF_lt f u hlt
        have hE : enc (zig x) = pre ++ [UInt8.ofNat u] := by rw [HE.out, e]
        have hc : Lib.byteCells [UInt8.ofNat u] = [.int .u8 (u : Int)] := by
          unfold Lib.byteCells
          rw [List.map_cons, List.map_nil, u8_of _ (by omega)]
        rw [← hc, ← Lib.byteCells_append, List.append_assoc, ← hE] at hown3
        obtain ⟨g3, c3, rfl, hO3⟩ := own_of hown3 (by omega)
        have hL : n + (enc (zig x)).length = k + 1 := by rw [hE, HK.out, List.length_append]; simp; omega
        rw [hL]
        exact ⟨g3, c3, rfl, hO3, (HB.out.alloc HB.out.size _).trans ((Below.refl _ _).grown hgrow3 (by have := HB.out.size; simp; omega) (fun k hk => by cases hk; exact HO.out.ge))⟩
      · have hge : (128 : Int) ≤ (u : Int) := by omega
        have HW := Lib.hid (show IntKind.u64.wrap ((u : Int) / 128) = (u : Int) / 128 by have := HU.out; rw [IntKind.wrap_u64]; omega)
        go_wp2_with (at_builtin; refine wpList_append_own _ rfl (.tmp 23) (.tmp 28) _ rfl w.heap.size 5 i0 (.int .u8 0) 1 1 Try.u42 hi hz0 hz1 hz2 rfl (by decide) (.slice (some ⟨g, 0, none⟩) k c2) k (Lib.byteCells (l ++ pre)) rfl (HO.out.2.alloc _) ⟨wr.heap.size, 0, none⟩ 1 1 [.int .u8 ((u : Int) % 128 + 128)] rfl rfl (one_news _ _ _) (one_ones _) (by unfold maxLen; omega) (by omega) (by have := HB.out.size; simp; omega) ?_; intro v3 w3 hown3 hgrow3 _)
        have R := ref_next HK.out HE.out HF.out HUB.out HU.out hlt hown3 ((HB.out.alloc HB.out.size _).trans ((Below.refl _ _).grown hgrow3 (by have := HB.out.size; simp; omega) (fun k hk => by cases hk; exact HO.out.ge)))
        go_roundw
        case rel => rw [HW.out]; exact R
        case measure => rw [HW.out]; simp [intOf]; omega
  · go_enter Try.func62, Try.ntmps62
    go_wp2_with (at_builtin; refine wpList_append_bs _ rfl (.tmp 7) (.tmp 8) _ rfl Try.u42 w.heap.size (.slice (some ⟨w.heap.size, 0, none⟩) 0 0) 0 [] rfl (own_zero w) w.heap.size A n c l rfl (HL.out.alloc (Nat.le_refl _) _) (by omega) (by simp) ?_; intro v1 w1 hown hgrow hnil)
    rw [Nat.zero_add, List.nil_append] at hown
    obtain ⟨g1, c1, rfl, hO⟩ := own_ne hown (hnil (by simp))
    have HO1 := Lib.hid hO
    have HB1 := Lib.hid (show Below w.heap.size w w1 from ((Below.refl _ _).alloc (Nat.le_refl _) _).grown hgrow (by simp) (fun k hk => by cases hk; exact Nat.le_refl _))
    have HZ := Lib.hid (zig_two h0 h1)
    clear hown hgrow hnil hO
    go_loopw [5, 6] (fun v y wr => RefRel w n l (zig x) v y wr) (fun _ y _ => (intOf y).toNat)
    case atStart => exact ⟨9, zig x, n, g1, c1, [], rfl, by first | exact congrArg _ (HZ.out.1 (by omega)) | exact congrArg _ (HZ.out.2 (by omega)), by simp, by simp [enc], rfl, by simpa using HU0.out, HU0.out, by simpa using HO1.out, HB1.out⟩
    case round =>
      obtain ⟨f, u, k, g, c2, pre, rfl, rfl, hk, henc, hf, hub, hu, ho, hb⟩ := hrel
      have HK := Lib.hid hk
      have HE := Lib.hid henc
      have HF := Lib.hid hf
      have HUB := Lib.hid hub
      have HU := Lib.hid hu
      have HO := Lib.hid ho
      have HB := Lib.hid hb
      have hkb : k + 1 ≤ 140737488355328 := by omega
      clear hk henc hf hub hu ho hb h0 h1 HO1 HB1
      by_cases hlt : u < 128
      · have hlt' : (u : Int) < 128 := by omega
        go_wp2_with (at_builtin; refine wpList_append_own _ rfl (.tmp 32) (.tmp 35) _ rfl w.heap.size 5 i0 (.int .u8 0) 1 1 Try.u42 hi hz0 hz1 hz2 rfl (by decide) (.slice (some ⟨g, 0, none⟩) k c2) k (Lib.byteCells (l ++ pre)) rfl (HO.out.2.alloc _) ⟨wr.heap.size, 0, none⟩ 1 1 [.int .u8 (u : Int)] rfl rfl (one_news _ _ _) (one_ones _) (by unfold maxLen; omega) (by omega) (by have := HB.out.size; simp; omega) ?_; intro v3 w3 hown3 hgrow3 _)
        go_ret
        have e : encF f u = [UInt8.ofNat u] := encF_lt f u hlt
        have hE : enc (zig x) = pre ++ [UInt8.ofNat u] := by rw [HE.out, e]
        have hc : Lib.byteCells [UInt8.ofNat u] = [.int .u8 (u : Int)] := by
          unfold Lib.byteCells
          rw [List.map_cons, List.map_nil, u8_of _ (by omega)]
        rw [← hc, ← Lib.byteCells_append, List.append_assoc, ← hE] at hown3
        obtain ⟨g3, c3, rfl, hO3⟩ := own_of hown3 (by omega)
        have hL : n + (enc (zig x)).length = k + 1 := by rw [hE, HK.out, List.length_append]; simp; omega
        rw [hL]
        exact ⟨g3, c3, rfl, hO3, (HB.out.alloc HB.out.size _).trans ((Below.refl _ _).grown hgrow3 (by have := HB.out.size; simp; omega) (fun k hk => by cases hk; exact HO.out.ge))⟩
      · have hge : (128 : Int) ≤ (u : Int) := by omega
        have HW := Lib.hid (show IntKind.u64.wrap ((u : Int) / 128) = (u : Int) / 128 by have := HU.out; rw [IntKind.wrap_u64]; omega)
        go_wp2_with (at_builtin; refine wpList_append_own _ rfl (.tmp 23) (.tmp 28) _ rfl w.heap.size 5 i0 (.int .u8 0) 1 1 Try.u42 hi hz0 hz1 hz2 rfl (by decide) (.slice (some ⟨g, 0, none⟩) k c2) k (Lib.byteCells (l ++ pre)) rfl (HO.out.2.alloc _) ⟨wr.heap.size, 0, none⟩ 1 1 [.int .u8 ((u : Int) % 128 + 128)] rfl rfl (one_news _ _ _) (one_ones _) (by unfold maxLen; omega) (by omega) (by have := HB.out.size; simp; omega) ?_; intro v3 w3 hown3 hgrow3 _)
        have R := ref_next HK.out HE.out HF.out HUB.out HU.out hlt hown3 ((HB.out.alloc HB.out.size _).trans ((Below.refl _ _).grown hgrow3 (by have := HB.out.size; simp; omega) (fun k hk => by cases hk; exact HO.out.ge)))
        go_roundw
        case rel => rw [HW.out]; exact R
        case measure => rw [HW.out]; simp [intOf]; omega
set_option maxRecDepth 100000 in
set_option maxHeartbeats 1600000 in
theorem refText_c (A : Option Addr) (n c : Nat) (l t : List UInt8) (w : World) (hl : Bs w w.heap.size A n c l) (hm : n + 10 + t.length ≤ 140737488355328) :
    Calls Try.prog 52 #[.slice A n c, .string ⟨t.toArray⟩] w fun e w' => ∃ n', Cp w n' (l ++ enc (zig t.length) ++ t) e w' := by
  obtain ⟨i0, hi, hz0, hz1, hz2⟩ := info_parts Try.i8
  have HL := Lib.hid hl
  clear hl
  obtain ⟨m, hmE⟩ : ∃ m, t.length = m := ⟨_, rfl⟩
  rw [hmE] at hm
  have hsz : (⟨t.toArray⟩ : ByteArray).size = m := hmE
  obtain ⟨q, hq⟩ : ∃ q, (enc (zig (m : Int))).length = q := ⟨_, rfl⟩
  have hq10 : 1 ≤ q ∧ q ≤ 10 := by rw [← hq]; exact enc_len _
  obtain ⟨q1, q2⟩ := hq10
  have HQ := Lib.hid hq
  have HM := Lib.hid hmE
  clear hq hmE
  go_enter Try.func52, Try.ntmps52
  go_wp2_with fail
  (with_reducible refine (refInt_c A n c l (m : Int) _ (by omega) (by omega) HL.out (by omega)).mono ?_)
  rintro e w1 ⟨g1, c1, rfl, ho, hb⟩
  rw [HQ.out] at ho
  rw [HQ.out]
  have HO := Lib.hid ho
  have HB := Lib.hid hb
  clear ho hb
  go_wp2_with (at_builtin; refine Lib.wpList_append_own_string _ rfl (.tmp 8) (.tmp 9) _ 9 rfl w.heap.size 5 i0 Try.u42 Try.underlying9 hi hz0 hz1 hz2 (.slice (some ⟨g1, 0, none⟩) (n + q) c1) (n + q) (Lib.byteCells (l ++ enc (zig (m : Int)))) rfl HO.out.2 ⟨t.toArray⟩ rfl (by rw [hsz]; unfold maxLen; omega) (by rw [hsz]; omega) HB.out.size ?_; intro v3 w3 hown3 hgrow3 _)
  go_ret
  rw [strCells_of, ← Lib.byteCells_append, hsz] at hown3
  obtain ⟨g, c', rfl, hO⟩ := own_of hown3 (by omega)
  refine ⟨n + q + m, g, c', rfl, ?_, HB.out.grown hgrow3 HB.out.size (fun k hk => by cases hk; exact HO.out.ge)⟩
  rw [HM.out]
  exact hO
end Go.Proofs.Ytkjckdndkljeeaa


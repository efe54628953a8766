/- Package roll, and its other: a roll in memory; add, last, Left, Records, blank. -/
import Derived.Test.YtkjckdndkljeeaaRollC
import Derived.Deep.QuietTactic
import Derived.BigQuiet
namespace Go.Proofs.Ytkjckdndkljeeaa
open Go.RowKit
def recV (r : Rec) : List Value := [.int .i64 r.seq, .string ⟨r.body.toArray⟩]
def recsV (L : List Rec) : List Value := L.flatMap recV
theorem recsV_len : ∀ L : List Rec, (recsV L).length = L.length * 2
  | [] => rfl
  | r :: L => by
    have := recsV_len L
    simp only [recsV, List.flatMap_cons, List.length_append, List.length_cons, recV, List.length_nil] at this ⊢
    omega
theorem recsV_app (L M : List Rec) : recsV (L ++ M) = recsV L ++ recsV M := by simp [recsV]
theorem recsV_one (r : Rec) : recsV [r] = [.int .i64 r.seq, .string ⟨r.body.toArray⟩] := rfl
theorem recsV_ones (L : List Rec) : ∀ u ∈ recsV L, u.oneCell' = true := by
  intro u hu
  simp only [recsV, List.mem_flatMap] at hu
  obtain ⟨r, _, hu⟩ := hu
  simp only [recV, List.mem_cons, List.not_mem_nil, or_false] at hu
  rcases hu with rfl | rfl <;> rfl
theorem recsV_at : ∀ (L : List Rec) (i : Nat) (h : i < L.length), (recsV L)[i * 2]? = some (.int .i64 L[i].seq) ∧ (recsV L)[i * 2 + 1]? = some (.string ⟨L[i].body.toArray⟩)
  | r :: L, 0, _ => ⟨rfl, rfl⟩
  | r :: L, i + 1, h => by
    have := recsV_at L i (by simpa using h)
    have e : recsV (r :: L) = .int .i64 r.seq :: .string ⟨r.body.toArray⟩ :: recsV L := rfl
    rw [e, show (i + 1) * 2 = i * 2 + 1 + 1 by omega]
    simpa using this
def rowOf : Option Addr → List Nat
  | none => []
  | some a => [a.block]
/-- A roll: its struct (of type T) in block p; its records (of type E) at A. -/
def Rl (T E : TypeId) (w : World) (B p g : Nat) (a z : Int) (A : Option Addr) (c : Nat) (L : List Rec) (u : Nat) : Prop :=
  Blk w p T #[.pointer (some ⟨g, 0, none⟩), .int .i64 a, .int .i64 z, .slice A L.length c, .int .i64 u] ∧ w.ownsRow B E 2 (.slice A L.length c) L.length (recsV L)
section
variable {T E : TypeId} {w w' : World} {B p g c u : Nat} {a z : Int} {A : Option Addr} {L : List Rec}
theorem Rl.row (h : Rl T E w B p g a z A c L u) : (A = none ∧ c = 0 ∧ L = []) ∨ ∃ k cur, A = some ⟨k, 0, none⟩ ∧ B ≤ k ∧ w.heap[k]? = some (.cells cur E (0, 0)) ∧ L.length ≤ c ∧ c ≤ maxLen ∧ cur.size = c * 2 ∧ cur.toList.take (L.length * 2) = recsV L := by
  rcases h.2.2 with ⟨e, h0⟩ | ⟨k, cap, cur, e, h1, h2, h3, h4, h5, h6⟩
  · injection e with e1 e2 e3
    exact .inl ⟨e1, e3, List.eq_nil_of_length_eq_zero h0⟩
  · injection e with e1 e2 e3
    subst e3
    exact .inr ⟨k, cur, e1, h1, h2, h3, h4, h5, h6⟩
theorem Rl.lt (h : Rl T E w B p g a z A c L u) : p < w.heap.size ∧ ∀ k ∈ rowOf A, k < w.heap.size ∧ B ≤ k := by
  refine ⟨h.1.lt, fun k hk => ?_⟩
  rcases h.row with ⟨rfl, _, _⟩ | ⟨k', cur, rfl, hB, hc, _⟩
  · cases hk
  · obtain rfl : k = k' := by simpa [rowOf] using hk
    exact ⟨Blk.lt (t := E) (cs := cur) hc, hB⟩
theorem Rl.but {ex : List Nat} (h : Rl T E w B p g a z A c L u) (hb : But ex w w') (hp : p ∉ ex) (hr : ∀ k ∈ rowOf A, k ∉ ex) : Rl T E w' B p g a z A c L u := by
  refine ⟨h.1.but hb hp, h.2.1, ?_⟩
  rcases h.2.2 with h0 | ⟨k, cap, cur, e, h1, h2, h3⟩
  · exact .inl h0
  · refine .inr ⟨k, cap, cur, e, h1, ?_, h3⟩
    have hA : A = some ⟨k, 0, none⟩ := by injection e
    have hk : k < w.heap.size := Blk.lt (t := E) (cs := cur) h2
    exact (hb.block k hk (hr k (by rw [hA]; simp [rowOf]))).trans h2
theorem Rl.below (h : Rl T E w B p g a z A c L u) (hb : Below w.heap.size w w') : Rl T E w' B p g a z A c L u := h.but (But.of_below hb []) (by simp) (by simp)
theorem Rl.drew (h : Rl T E w B p g a z A c L u) : Rl T E w.drew B p g a z A c L u := h
theorem Rl.cells (h : Rl T E w B p g a z A c L u) : p < w.heap.size ∧ w.cell? ⟨p, 0, none⟩ = some (.pointer (some ⟨g, 0, none⟩)) ∧ w.cell? ⟨p, 1, none⟩ = some (.int .i64 a) ∧ w.cell? ⟨p, 2, none⟩ = some (.int .i64 z) ∧ w.cell? ⟨p, 3, none⟩ = some (.slice A L.length c) ∧ w.cell? ⟨p, 4, none⟩ = some (.int .i64 u) := by
  have x0 := h.1.cell 0
  have x1 := h.1.cell 1
  have x2 := h.1.cell 2
  have x3 := h.1.cell 3
  have x4 := h.1.cell 4
  simp at x0 x1 x2 x3 x4
  exact ⟨h.1.lt, x0, x1, x2, x3, x4⟩
theorem Rl.at_ (h : Rl T E w B p g a z A c L u) {i : Nat} (hi : i < L.length) : ∃ k, A = some ⟨k, 0, none⟩ ∧ w.cell? ⟨k, i * 2, none⟩ = some (.int .i64 L[i].seq) ∧ w.cell? ⟨k, i * 2 + 1, none⟩ = some (.string ⟨L[i].body.toArray⟩) := by
  rcases h.row with ⟨_, _, rfl⟩ | ⟨k, cur, rfl, hB, hc, _⟩
  · cases hi
  · obtain ⟨h1, h2⟩ := recsV_at L i hi
    refine ⟨k, rfl, ?_, ?_⟩
    · have := h.2.cells (g := k) rfl _ _ h1
      rwa [Addr.add_lit, Nat.zero_add] at this
    · have := h.2.cells (g := k) rfl _ _ h2
      rwa [Addr.add_lit, Nat.zero_add] at this
theorem Rl.far {k : Nat} {t : TypeId} {cs : Array Value} (h : Rl T E w B p g a z A c L u) (hk : Blk w k t cs) (h1 : T ≠ t) (h2 : E ≠ t) : k ∉ p :: rowOf A := by
  intro hm
  rcases List.mem_cons.1 hm with rfl | hm
  · have := h.1.symm.trans hk
    simp at this
    exact h1 this.2
  · rcases h.row with ⟨rfl, _, _⟩ | ⟨k', cur, rfl, hB, hc, _⟩
    · cases hm
    · obtain rfl : k = k' := by simpa [rowOf] using hm
      have := hc.symm.trans hk
      simp at this
      exact h2 this.2
end
/-- What an append of one record, stored back, leaves. -/
theorem Rl.app {T E TS : TypeId} (hts : Try.prog.underlying TS = some (.slice E)) (hie : (Try.prog.info? E).map (fun i => (i.zero, i.size, i.bytes)) = some (some (.agg #[.int .i64 0, .string ⟨#[]⟩]), 2, 24)) (hTE : T ≠ E)
    {w : World} {B p g c u k : Nat} {a z : Int} {A : Option Addr} {L : List Rec} (h : Rl T E w B p g a z A c L u) (r : Rec) (hk : Blk w k E #[.int .i64 r.seq, .string ⟨r.body.toArray⟩]) (hL : L.length ≤ 1000000) (hB : B ≤ w.heap.size) (ty : TypeId) :
    ∃ k' c' w', (Builtin.append_ #[TS, TS] ty #[.slice A L.length c, .slice (some ⟨k, 0, none⟩) 1 1]).run Try.prog w = .ok (.slice (some ⟨k', 0, none⟩) (L.length + 1) c') w' ∧
      Rl T E (w'.setCell ⟨p, 3, none⟩ (.slice (some ⟨k', 0, none⟩) (L.length + 1) c')) B p g a z (some ⟨k', 0, none⟩) c' (L ++ [r]) u ∧ But (p :: rowOf A) w (w'.setCell ⟨p, 3, none⟩ (.slice (some ⟨k', 0, none⟩) (L.length + 1) c')) ∧
      w'.cell? ⟨p, 3, none⟩ = some (.slice A L.length c) ∧ w'.frozen? ⟨p, 3, none⟩ = false ∧ But (p :: rowOf A) w w' := by
  obtain ⟨i0, hi, hz0, hz1, hz2⟩ := info_parts hie
  obtain ⟨v', w', hr, h2, h3, h4⟩ := run_append_own (P := Try.prog) w B TS ty E i0 (.agg #[.int .i64 0, .string ⟨#[]⟩]) 2 24 hts hi hz0 hz1 hz2 rfl (by decide) (.slice A L.length c) L.length (recsV L) h.2 ⟨k, 0, none⟩ 1 1 (recsV [r]) rfl
    (fun j u hu => by
      rw [Addr.add_lit, Nat.zero_add, Blk.cell hk, recsV_one] at *
      rw [← hu, ← List.getElem?_toArray]) (recsV_ones _) (by unfold maxLen; omega) (by omega) hB
  have hne : v' ≠ .slice none 0 0 := fun e => by have := (h4.1 e).2; omega
  rw [← recsV_app] at h2
  rcases h2.2 with ⟨e, _⟩ | ⟨k', c', cur, rfl, q1, q2, q3⟩
  · exact absurd e hne
  have hp : Blk w' p T _ := (h3.block p h.1.lt (fun e => by
    rcases h.row with ⟨rfl, _, _⟩ | ⟨kk, cur, rfl, hB, hc, _⟩
    · cases e
    · have e1 : p = kk := by injection e
      subst e1
      have := hc.symm.trans h.1
      simp at this
      exact hTE this.2.symm)).trans h.1
  have hpk : p ≠ k' := fun e => by
    subst e
    have := hp.symm.trans q2
    simp at this
    exact hTE this.2
  have hcell := hp.cell 3
  simp at hcell
  have hb : But (p :: rowOf A) w w' := ⟨h3.os, h3.tape, h3.output, h3.size, fun i hi hx => h3.block i hi (fun e => hx (by
    cases A with
    | none => cases e
    | some a =>
      simp only [Value.ownBlock, Option.some.injEq] at e
      simp [rowOf, e]))⟩
  refine ⟨k', c', w', hr, ⟨?_, recsV_len _, ?_⟩, hb.setCell (p := ⟨p, 3, none⟩) (by simp) _, hcell, hp.frozen 3, hb⟩
  · have := hp.set_ 3 (.slice (some ⟨k', 0, none⟩) (L.length + 1) c')
    simp only [List.length_append, List.length_cons, List.length_nil]
    exact this
  · simp only [List.length_append, List.length_cons, List.length_nil]
    exact .inr ⟨k', c', cur, rfl, q1, (Below.heap_setCell w' ⟨p, 3, none⟩ _ k' (by simpa using (Ne.symm hpk))).trans q2, q3⟩
theorem Try.recs : Try.prog.underlying 32 = some (.slice 58) := Try.underlying32
theorem Try.recI : (Try.prog.info? 58).map (fun i => (i.zero, i.size, i.bytes)) = some (some (.agg #[.int .i64 0, .string ⟨#[]⟩]), 2, 24) := by kernel_rfl
abbrev RlG (w : World) (B p g : Nat) (a z : Int) (A : Option Addr) (c : Nat) (L : List Rec) (u : Nat) : Prop := Rl 66 58 w B p g a z A c L u
abbrev RlR (w : World) (B p g : Nat) (a z : Int) (A : Option Addr) (c : Nat) (L : List Rec) (u : Nat) : Prop := Rl 51 74 w B p g a z A c L u
theorem lastB_at {L : List Rec} (h : 0 < L.length) : lastB L = (L[L.length - 1]'(by omega)).seq := by
  unfold lastB
  rw [if_neg (by omega)]
  simp [List.getD_eq_getElem?_getD, List.getElem?_eq_getElem (show L.length - 1 < L.length by omega)]
theorem lastB_nil {L : List Rec} (h : L.length = 0) : lastB L = 0 := by
  unfold lastB
  rw [if_pos h]
section
variable {w : World} {B p g c u : Nat} {a z : Int} {A : Option Addr} {L : List Rec}
set_option maxRecDepth 100000 in
set_option maxHeartbeats 800000 in
theorem last_c (r : Int) (h : RlG w B p g a z A c L u) (hr : lastB L = r) (hm : L.length ≤ 1000000) : Calls Try.prog 32 #[.pointer (some ⟨p, 0, none⟩)] w fun e w' => e = .returned (.int .i64 r) ∧ Below w.heap.size w w' := by
  obtain ⟨lp, x0, x1, x2, x3, x4⟩ := h.cells
  by_cases h0 : L.length = 0
  · obtain rfl : r = 0 := by rw [← hr, lastB_nil h0]
    have h0' : ((L.length : Int) == 0) = true := by simp; exact List.eq_nil_of_length_eq_zero h0
    clear h hr
    go_enter Try.func32, Try.ntmps32
    go_wp2
    go_ret
    exact ⟨rfl, Below.refl _ _⟩
  · have h0' : ((L.length : Int) == 0) = false := by simp; exact fun e => h0 (by rw [e]; rfl)
    rw [lastB_at (by omega)] at hr
    obtain ⟨k, rfl, c0, _⟩ := h.at_ (i := L.length - 1) (by omega)
    rw [hr] at c0
    obtain ⟨n, hn⟩ : ∃ n, L.length = n := ⟨_, rfl⟩
    rw [hn] at x3 c0 h0 h0' hm
    have hw : IntKind.i64.wrap ((n : Int) - 1) = (n : Int) - 1 := by rw [IntKind.wrap_i64]; omega
    have i6 : (0 : Int) ≤ (n : Int) - 1 := by omega
    have i6b : (1 : Int) ≤ (n : Int) := by omega
    have i7 : (n : Int) - 1 < (n : Int) := by omega
    have i8 : ((n : Int) - 1).toNat = n - 1 := by omega
    clear h hr hn
    go_enter Try.func32, Try.ntmps32
    go_wp2
    go_quiet (fail)
    go_wp2
    go_ret
    exact ⟨rfl, bel_drewN _ _⟩
set_option maxRecDepth 100000 in
set_option maxHeartbeats 800000 in
theorem refLast_c (r : Int) (h : RlR w B p g a z A c L u) (hr : lastB L = r) (hm : L.length ≤ 1000000) : Calls Try.prog 41 #[.pointer (some ⟨p, 0, none⟩)] w fun e w' => e = .returned (.int .i64 r) ∧ Below w.heap.size w w' := by
  obtain ⟨lp, x0, x1, x2, x3, x4⟩ := h.cells
  by_cases h0 : L.length = 0
  · obtain rfl : r = 0 := by rw [← hr, lastB_nil h0]
    have h0' : ((L.length : Int) == 0) = true := by simp; exact List.eq_nil_of_length_eq_zero h0
    clear h hr
    go_enter Try.func41, Try.ntmps41
    go_wp2
    go_ret
    exact ⟨rfl, Below.refl _ _⟩
  · have h0' : ((L.length : Int) == 0) = false := by simp; exact fun e => h0 (by rw [e]; rfl)
    rw [lastB_at (by omega)] at hr
    obtain ⟨k, rfl, c0, _⟩ := h.at_ (i := L.length - 1) (by omega)
    rw [hr] at c0
    obtain ⟨n, hn⟩ : ∃ n, L.length = n := ⟨_, rfl⟩
    rw [hn] at x3 c0 h0 h0' hm
    have hw : IntKind.i64.wrap ((n : Int) - 1) = (n : Int) - 1 := by rw [IntKind.wrap_i64]; omega
    have i6 : (0 : Int) ≤ (n : Int) - 1 := by omega
    have i6b : (1 : Int) ≤ (n : Int) := by omega
    have i7 : (n : Int) - 1 < (n : Int) := by omega
    have i8 : ((n : Int) - 1).toNat = n - 1 := by omega
    clear h hr hn
    go_enter Try.func41, Try.ntmps41
    go_wp2
    go_quiet (fail)
    go_wp2
    go_ret
    exact ⟨rfl, bel_drewN _ _⟩
set_option maxRecDepth 100000 in
set_option maxHeartbeats 800000 in
theorem left_c (r : Int) (h : RlG w B p g a z A c L u) (hr : z - u = r) (hm : u ≤ 1000000) (hz : 0 ≤ z) (hz2 : z ≤ 1000000) : Calls Try.prog 16 #[.pointer (some ⟨p, 0, none⟩)] w fun e w' => e = .returned (.int .i64 r) ∧ Below w.heap.size w w' := by
  obtain ⟨lp, x0, x1, x2, x3, x4⟩ := h.cells
  have hw : IntKind.i64.wrap (z - (u : Int)) = z - (u : Int) := by rw [IntKind.wrap_i64]; omega
  have HR := Lib.hid hr
  clear h hr
  go_enter Try.func16, Try.ntmps16
  go_wp2
  go_quiet (fail)
  go_wp2
  go_ret
  exact ⟨ret_int HR.out, bel_drewN _ _⟩
set_option maxRecDepth 100000 in
set_option maxHeartbeats 800000 in
theorem refLeft_c (r : Int) (h : RlR w B p g a z A c L u) (hr : z - u = r) (hm : u ≤ 1000000) (hz : 0 ≤ z) (hz2 : z ≤ 1000000) : Calls Try.prog 27 #[.pointer (some ⟨p, 0, none⟩)] w fun e w' => e = .returned (.int .i64 r) ∧ Below w.heap.size w w' := by
  obtain ⟨lp, x0, x1, x2, x3, x4⟩ := h.cells
  have hw : IntKind.i64.wrap (z - (u : Int)) = z - (u : Int) := by rw [IntKind.wrap_i64]; omega
  have HR := Lib.hid hr
  clear h hr
  go_enter Try.func27, Try.ntmps27
  go_wp2
  go_quiet (fail)
  go_wp2
  go_ret
  exact ⟨ret_int HR.out, bel_drewN _ _⟩
end
end Go.Proofs.Ytkjckdndkljeeaa

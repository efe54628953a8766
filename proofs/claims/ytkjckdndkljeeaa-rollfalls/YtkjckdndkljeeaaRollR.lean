/- Package roll: same; what two rolls, of the program and of the document, have alike. -/
import Derived.Test.YtkjckdndkljeeaaRollQ
import Derived.Test.YtkjckdndkljeeaaRollM
namespace Go.Proofs.Ytkjckdndkljeeaa
open Go.RowKit
theorem findF_last : ∀ (f : Nat) (b : List UInt8) (u : Nat) (last : Int), last ≤ lastF last (findF f b u last).1
  | 0, _, _, _ => Int.le_refl _
  | f + 1, b, u, last => by
    unfold findF
    cases hw : wholeB (b.drop u) u last with
    | none => exact Int.le_refl _
    | some q =>
      obtain ⟨r, n⟩ := q
      have h1 := (wholeB_size hw).2.2
      have h2 := findF_last f b (u + n) r.seq
      simp only [lastF]
      omega
theorem findB_last (b : List UInt8) : 0 ≤ lastB (findB b).1 := by rw [lastB_lastF]; exact findF_last _ b 0 0
/-- What an Open answers. -/
theorem opS_out {s s' : Sst} {n : Nat} {a z e : Int} {R : Option (List Rec × Nat)} (h : opS s n a z = (s', R, e)) (hl : s.l.length = n) :
    (R = none ∧ (e = 1 ∨ e = 6)) ∨ (∃ L u, R = some (L, u) ∧ e = 0 ∧ (u : Int) ≤ z ∧ L.length ≤ u ∧ 0 ≤ lastB L ∧ 32 ≤ z ∧ z ≤ 8192 ∧ 0 ≤ a ∧ a ≤ n) := by
  unfold opS at h
  by_cases h1 : badA n a z = true
  · rw [if_pos h1] at h
    cases h
    exact .inl ⟨rfl, .inl rfl⟩
  · rw [if_neg h1] at h
    by_cases h2 : s.dead = true
    · rw [if_pos h2] at h
      cases h
      exact .inl ⟨rfl, .inr rfl⟩
    · rw [if_neg h2] at h
      simp only at h
      have hb : ¬ z < 32 ∧ ¬ 8192 < z ∧ ¬ a < 0 ∧ ¬ (n : Int) - z < a := by
        unfold badA at h1
        simp at h1
        omega
      have hu := findB_u ((s.l.drop a.toNat).take z.toNat)
      have hL := findB_L ((s.l.drop a.toNat).take z.toNat)
      have hq := findB_last ((s.l.drop a.toNat).take z.toNat)
      rw [List.length_take, List.length_drop, hl] at hu
      obtain ⟨L0, u0, hf⟩ : ∃ L0 u0, findB ((s.l.drop a.toNat).take z.toNat) = (L0, u0) := ⟨_, _, rfl⟩
      rw [hf] at h hu hL hq
      simp only at h hu hL hq
      split at h
      · cases h
        exact .inr ⟨L0, u0, rfl, rfl, by omega, hL, hq, by omega, by omega, by omega, by omega⟩
      · cases h
        exact .inl ⟨rfl, .inr rfl⟩
theorem wipeF_nocut {n : Nat} {a : Int} {z : Nat} (hz : 0 ≤ a ∧ a + z ≤ n) : ∀ (f : Nat) (s : Sst) (k : Nat), s.dead = false → s.cut = false → (wipeF f s n a k z).2 = true
  | 0, _, _, _, _ => rfl
  | f + 1, s, k, hd, hc => by
    by_cases hk : k < z
    · obtain ⟨q, hq⟩ : ∃ q, min 32 (z - k) = q := ⟨_, rfl⟩
      obtain ⟨s1, γ, hW⟩ : ∃ s1 γ, wrS s n (a + (k : Int)) (List.replicate q 0) = (s1, γ) := ⟨_, _, rfl⟩
      rw [wipeF_step hk hq hW]
      obtain ⟨x, hx⟩ := Int.eq_ofNat_of_zero_le (show 0 ≤ a + (k : Int) by omega)
      rw [hx] at hW
      rcases wrS_cases hW hd (by rw [List.length_replicate]; omega) with ⟨rfl, _, h2, h3⟩ | ⟨_, h1, _⟩
      · rw [if_pos rfl]
        rcases h3 with ⟨_, h3⟩ | ⟨h3, _⟩
        · exact wipeF_nocut hz f s1 _ h2 h3
        · rw [hc] at h3; cases h3
      · rw [hc] at h1; cases h1
    · rw [wipeF_end hk]
/-- An Open behind a Revive. -/
theorem opS_live {s : Sst} {n : Nat} {a z : Int} (hd : s.dead = false) (hc : s.cut = false) (hz : 32 ≤ z ∧ z ≤ 8192) (ha : 0 ≤ a ∧ a + z ≤ n) : ∃ s' q, opS s n a z = (s', some q, 0) := by
  unfold opS
  rw [if_neg (by unfold badA; simp; omega), if_neg (by rw [hd]; decide)]
  simp only
  have hw : (wipeB s n a (findB ((s.l.drop a.toNat).take z.toNat)).2 z.toNat (((s.l.drop a.toNat).take z.toNat).drop (findB ((s.l.drop a.toNat).take z.toNat)).2)).2 = true := by
    unfold wipeB
    split
    · rfl
    · exact wipeF_nocut (by omega) 257 s _ hd hc
  rw [if_pos hw]
  exact ⟨_, _, rfl⟩
/-- What an Append leaves. -/
theorem apS_out {s s' : Sst} {n z u u' : Nat} {a q e : Int} {L L' : List Rec} {t : List UInt8} (h : apS s n a z L u q t = (s', L', u', e)) (hu : u ≤ z) (hL : L.length ≤ u) (h0 : 0 ≤ lastB L) : u' ≤ z ∧ L'.length ≤ u' ∧ 0 ≤ lastB L' := by
  unfold apS at h
  by_cases h1 : q ≤ lastB L ∨ 420 < t.length
  · rw [if_pos h1] at h
    cases h
    exact ⟨hu, hL, h0⟩
  · rw [if_neg h1] at h
    by_cases h2 : z < u + (frameB u ⟨q, t⟩).length
    · rw [if_pos h2] at h
      cases h
      exact ⟨hu, hL, h0⟩
    · rw [if_neg h2] at h
      simp only at h
      split at h
      · cases h
        have := (frameB_len' u ⟨q, t⟩).1
        exact ⟨by omega, by rw [List.length_append]; simp only [List.length_cons, List.length_nil]; omega, by rw [lastB_add]; simp only; omega⟩
      · cases h
        exact ⟨hu, hL, h0⟩
theorem ex_far {T E t1 t2 t : TypeId} {w : World} {B p g d c u k : Nat} {a z : Int} {A : Option Addr} {L : List Rec} {c1 c2 cs : Array Value} (h : Rl T E w B p g a z A c L u) (hg : Blk w g t1 c1) (hd : Blk w d t2 c2) (hk : Blk w k t cs) (h1 : T ≠ t) (h2 : E ≠ t) (h3 : t1 ≠ t) (h4 : t2 ≠ t ∨ k ≠ d) : k ∉ p :: g :: d :: rowOf A := by
  intro hm
  have hf := h.far hk h1 h2
  simp only [List.mem_cons] at hm hf
  rcases hm with hm | rfl | rfl | hm
  · exact hf (.inl hm)
  · have := hg.symm.trans hk
    simp at this
    exact h3 this.2
  · rcases h4 with h4 | h4
    · have := hd.symm.trans hk
      simp at this
      exact h4 this.2
    · exact h4 rfl
  · exact hf (.inr hm)
theorem row_far {T E t1 t2 T' E' : TypeId} {w : World} {B p g d c u B' p' g' c' u' : Nat} {a z a' z' : Int} {A A' : Option Addr} {L L' : List Rec} {c1 c2 : Array Value} (h : Rl T E w B p g a z A c L u) (hg : Blk w g t1 c1) (hd : Blk w d t2 c2) (h' : Rl T' E' w B' p' g' a' z' A' c' L' u') (h1 : T ≠ E') (h2 : E ≠ E') (h3 : t1 ≠ E') (h4 : t2 ≠ E') : ∀ k ∈ rowOf A', k ∉ p :: g :: d :: rowOf A := by
  intro k hk
  rcases h'.row with ⟨rfl, _, _⟩ | ⟨k', cur, rfl, hB, hc, _⟩
  · cases hk
  · obtain rfl : k = k' := by simpa [rowOf] using hk
    exact ex_far h hg hd (show Blk w k E' cur from hc) h1 h2 h3 (.inl h4)
section
variable {w w' : World} {N p g d n N2 p2 g2 d2 c u c2 u2 : Nat} {a z a2 z2 : Int} {s s2 : Sst} {A A2 : Option Addr} {L L2 : List Rec}
/-- What the program's roll and slab do leaves the document's as they are. -/
theorem keepR (h : RlG w N p g a z A c L u) (hs : SlS w g d n s) (hr : RsS w g2 d2 n s2) (hd : d2 ≠ d) (hb : But (p :: g :: d :: rowOf A) w w') : RsS w' g2 d2 n s2 :=
  hr.but hb (ex_far h hs.1 hs.2.1 hr.1 (by decide) (by decide) (by decide) (.inl (by decide))) (ex_far h hs.1 hs.2.1 hr.2.1 (by decide) (by decide) (by decide) (.inr hd))
theorem keepRl (h : RlG w N p g a z A c L u) (hs : SlS w g d n s) (hr : RlR w N2 p2 g2 a2 z2 A2 c2 L2 u2) (hb : But (p :: g :: d :: rowOf A) w w') : RlR w' N2 p2 g2 a2 z2 A2 c2 L2 u2 :=
  hr.but hb (ex_far h hs.1 hs.2.1 hr.1 (by decide) (by decide) (by decide) (.inl (by decide))) (row_far h hs.1 hs.2.1 hr (by decide) (by decide) (by decide) (by decide))
/-- The other way. -/
theorem keepS (h : RlR w N2 p2 g2 a z A c L u) (hr : RsS w g2 d2 n s2) (hs : SlS w g d n s) (hd : d ≠ d2) (hb : But (p2 :: g2 :: d2 :: rowOf A) w w') : SlS w' g d n s :=
  hs.but hb (ex_far h hr.1 hr.2.1 hs.1 (by decide) (by decide) (by decide) (.inl (by decide))) (ex_far h hr.1 hr.2.1 hs.2.1 (by decide) (by decide) (by decide) (.inr hd))
theorem keepSl (h : RlR w N2 p2 g2 a z A c L u) (hr : RsS w g2 d2 n s2) (hs : RlG w N p g a2 z2 A2 c2 L2 u2) (hb : But (p2 :: g2 :: d2 :: rowOf A) w w') : RlG w' N p g a2 z2 A2 c2 L2 u2 :=
  hs.but hb (ex_far h hr.1 hr.2.1 hs.1 (by decide) (by decide) (by decide) (.inl (by decide))) (row_far h hr.1 hr.2.1 hs (by decide) (by decide) (by decide) (by decide))
end
set_option maxRecDepth 100000 in
set_option maxHeartbeats 1600000 in
theorem same_c (A A2 : Option Addr) (n c c2 : Nat) (L : List Rec) (w : World) (hn : L.length = n) (h : Rcs w A L) (h2 : Rcs w A2 L) (hm : n ≤ 1000000) :
    Calls Try.prog 26 #[.slice A n c, .slice A2 n c2] w fun e w' => e = .returned (.bool true) ∧ Below w.heap.size w w' := by
  have H := Lib.hid h
  have H2 := Lib.hid h2
  have HN := Lib.hid hn
  clear h h2 hn
  go_enter Try.func26, Try.ntmps26
  go_wp2
  go_loopw [13] (fun i wr => ∃ j : Nat, j ≤ n ∧ i = .int .i64 (j : Int) ∧ Below w.heap.size w wr) (fun i _ => n - (intOf i).toNat)
  case atStart => exact ⟨0, by omega, rfl, Below.refl _ _⟩
  case round =>
    obtain ⟨j, hj, rfl, hb⟩ := hrel
    have HB := Lib.hid hb
    by_cases hjn : j < n
    · have hjn' : (j : Int) < (n : Int) := by omega
      have hj0 : (0 : Int) ≤ (j : Int) := by omega
      obtain ⟨k, rfl, _, r0, r1⟩ := (H.out.below hb) j (by rw [HN.out]; exact hjn)
      obtain ⟨k2, rfl, _, q0, q1⟩ := (H2.out.below hb) j (by rw [HN.out]; exact hjn)
      obtain ⟨sq, hsq⟩ : ∃ x, (L[j]'(by rw [HN.out]; exact hjn)).seq = x := ⟨_, rfl⟩
      obtain ⟨bd, hbd⟩ : ∃ x, (L[j]'(by rw [HN.out]; exact hjn)).body = x := ⟨_, rfl⟩
      rw [hsq] at r0 q0
      rw [hbd] at r1 q1
      clear hb hsq hbd
      go_upto_region 6 with fail
      refine wp_region_ord (S := fun V => V = wr.drew) (by kernel_rfl) ?_
      refine ord_take (v := ?_) (i := 0) (fuel := 23) (by simp; rfl) (by kernel_rfl) (by kernel_rfl) (by kernel_rfl) (Or.inl ⟨by rfl, fun w' hSw => ?_⟩) rfl ?_
      rotate_left
      · go_simp
        all_goals with_reducible rfl
      simp only [Act.put, List.setIfInBounds_toArray, List.set_cons_zero, List.set_cons_succ]
      refine ord_take (v := ?_) (i := 1) (fuel := 22) (by simp; rfl) (by kernel_rfl) (by kernel_rfl) (by kernel_rfl) (Or.inl ⟨by rfl, fun w' hSw => ?_⟩) rfl ?_
      rotate_left
      · go_simp
        all_goals with_reducible rfl
      simp only [Act.put, List.setIfInBounds_toArray, List.set_cons_zero, List.set_cons_succ]
      refine ord_take (v := ?_) (i := 2) (fuel := 21) (by simp; rfl) (by kernel_rfl) (by kernel_rfl) (by kernel_rfl) (Or.inl ⟨by rfl, fun w' hSw => ?_⟩) rfl ?_
      rotate_left
      · go_simp
        all_goals with_reducible rfl
      simp only [Act.put, List.setIfInBounds_toArray, List.set_cons_zero, List.set_cons_succ]
      refine ord_take (v := ?_) (i := 3) (fuel := 20) (by simp; rfl) (by kernel_rfl) (by kernel_rfl) (by kernel_rfl) (Or.inl ⟨by rfl, fun w' hSw => ?_⟩) rfl ?_
      rotate_left
      · go_simp
        all_goals with_reducible rfl
      simp only [Act.put, List.setIfInBounds_toArray, List.set_cons_zero, List.set_cons_succ]
      refine ord_take (v := ?_) (i := 4) (fuel := 19) (by simp; rfl) (by kernel_rfl) (by kernel_rfl) (by kernel_rfl) (Or.inl ⟨by rfl, fun w' hSw => ?_⟩) rfl ?_
      rotate_left
      · dsimp only at hSw
        subst hSw
        have cc : wr.drew.cell? ⟨k, j * 2, none⟩ = _ := r0
        go_simp
        all_goals with_reducible rfl
      simp only [Act.put, List.setIfInBounds_toArray, List.set_cons_zero, List.set_cons_succ]
      refine ord_take (v := ?_) (i := 5) (fuel := 18) (by simp; rfl) (by kernel_rfl) (by kernel_rfl) (by kernel_rfl) (Or.inl ⟨by rfl, fun w' hSw => ?_⟩) rfl ?_
      rotate_left
      · go_simp
        all_goals with_reducible rfl
      simp only [Act.put, List.setIfInBounds_toArray, List.set_cons_zero, List.set_cons_succ]
      refine ord_take (v := ?_) (i := 6) (fuel := 17) (by simp; rfl) (by kernel_rfl) (by kernel_rfl) (by kernel_rfl) (Or.inl ⟨by rfl, fun w' hSw => ?_⟩) rfl ?_
      rotate_left
      · go_simp
        all_goals with_reducible rfl
      simp only [Act.put, List.setIfInBounds_toArray, List.set_cons_zero, List.set_cons_succ]
      refine ord_take (v := ?_) (i := 7) (fuel := 16) (by simp; rfl) (by kernel_rfl) (by kernel_rfl) (by kernel_rfl) (Or.inl ⟨by rfl, fun w' hSw => ?_⟩) rfl ?_
      rotate_left
      · go_simp
        all_goals with_reducible rfl
      simp only [Act.put, List.setIfInBounds_toArray, List.set_cons_zero, List.set_cons_succ]
      refine ord_take (v := ?_) (i := 8) (fuel := 15) (by simp; rfl) (by kernel_rfl) (by kernel_rfl) (by kernel_rfl) (Or.inl ⟨by rfl, fun w' hSw => ?_⟩) rfl ?_
      rotate_left
      · go_simp
        all_goals with_reducible rfl
      simp only [Act.put, List.setIfInBounds_toArray, List.set_cons_zero, List.set_cons_succ]
      refine ord_take (v := ?_) (i := 9) (fuel := 14) (by simp; rfl) (by kernel_rfl) (by kernel_rfl) (by kernel_rfl) (Or.inl ⟨by rfl, fun w' hSw => ?_⟩) rfl ?_
      rotate_left
      · dsimp only at hSw
        subst hSw
        have cc : wr.drew.cell? ⟨k2, j * 2, none⟩ = _ := q0
        go_simp
        all_goals with_reducible rfl
      simp only [Act.put, List.setIfInBounds_toArray, List.set_cons_zero, List.set_cons_succ]
      refine ord_take (v := ?_) (i := 10) (fuel := 13) (by simp; rfl) (by kernel_rfl) (by kernel_rfl) (by kernel_rfl) (Or.inl ⟨by rfl, fun w' hSw => ?_⟩) rfl ?_
      rotate_left
      · go_simp
        all_goals with_reducible rfl
      simp only [Act.put, List.setIfInBounds_toArray, List.set_cons_zero, List.set_cons_succ]
      refine ord_take (v := ?_) (i := 11) (fuel := 12) (by simp; rfl) (by kernel_rfl) (by kernel_rfl) (by kernel_rfl) (Or.inl ⟨by rfl, fun w' hSw => ?_⟩) rfl ?_
      rotate_left
      · go_simp
        all_goals with_reducible rfl
      simp only [Act.put, List.setIfInBounds_toArray, List.set_cons_zero, List.set_cons_succ]
      refine ord_take (v := ?_) (i := 12) (fuel := 11) (by simp; rfl) (by kernel_rfl) (by kernel_rfl) (by kernel_rfl) (Or.inl ⟨by rfl, fun w' hSw => ?_⟩) rfl ?_
      rotate_left
      · go_simp
        all_goals with_reducible rfl
      simp only [Act.put, List.setIfInBounds_toArray, List.set_cons_zero, List.set_cons_succ]
      refine ord_take (v := ?_) (i := 13) (fuel := 10) (by simp; rfl) (by kernel_rfl) (by kernel_rfl) (by kernel_rfl) (Or.inl ⟨by rfl, fun w' hSw => ?_⟩) rfl ?_
      rotate_left
      · go_simp
        all_goals with_reducible rfl
      simp only [Act.put, List.setIfInBounds_toArray, List.set_cons_zero, List.set_cons_succ]
      refine ord_take (v := ?_) (i := 14) (fuel := 9) (by simp; rfl) (by kernel_rfl) (by kernel_rfl) (by kernel_rfl) (Or.inl ⟨by rfl, fun w' hSw => ?_⟩) rfl ?_
      rotate_left
      · go_simp
        all_goals with_reducible rfl
      simp only [Act.put, List.setIfInBounds_toArray, List.set_cons_zero, List.set_cons_succ]
      refine ord_take (v := ?_) (i := 15) (fuel := 8) (by simp; rfl) (by kernel_rfl) (by kernel_rfl) (by kernel_rfl) (Or.inl ⟨by rfl, fun w' hSw => ?_⟩) rfl ?_
      rotate_left
      · go_simp
        all_goals with_reducible rfl
      simp only [Act.put, List.setIfInBounds_toArray, List.set_cons_zero, List.set_cons_succ]
      refine ord_take (v := ?_) (i := 16) (fuel := 7) (by simp; rfl) (by kernel_rfl) (by kernel_rfl) (by kernel_rfl) (Or.inl ⟨by rfl, fun w' hSw => ?_⟩) rfl ?_
      rotate_left
      · dsimp only at hSw
        subst hSw
        have cc : wr.drew.cell? ⟨k, j * 2 + 1, none⟩ = _ := r1
        go_simp
        all_goals with_reducible rfl
      simp only [Act.put, List.setIfInBounds_toArray, List.set_cons_zero, List.set_cons_succ]
      refine ord_take (v := ?_) (i := 17) (fuel := 6) (by simp; rfl) (by kernel_rfl) (by kernel_rfl) (by kernel_rfl) (Or.inl ⟨by rfl, fun w' hSw => ?_⟩) rfl ?_
      rotate_left
      · go_simp
        all_goals with_reducible rfl
      simp only [Act.put, List.setIfInBounds_toArray, List.set_cons_zero, List.set_cons_succ]
      refine ord_take (v := ?_) (i := 18) (fuel := 5) (by simp; rfl) (by kernel_rfl) (by kernel_rfl) (by kernel_rfl) (Or.inl ⟨by rfl, fun w' hSw => ?_⟩) rfl ?_
      rotate_left
      · go_simp
        all_goals with_reducible rfl
      simp only [Act.put, List.setIfInBounds_toArray, List.set_cons_zero, List.set_cons_succ]
      refine ord_take (v := ?_) (i := 19) (fuel := 4) (by simp; rfl) (by kernel_rfl) (by kernel_rfl) (by kernel_rfl) (Or.inl ⟨by rfl, fun w' hSw => ?_⟩) rfl ?_
      rotate_left
      · go_simp
        all_goals with_reducible rfl
      simp only [Act.put, List.setIfInBounds_toArray, List.set_cons_zero, List.set_cons_succ]
      refine ord_take (v := ?_) (i := 20) (fuel := 3) (by simp; rfl) (by kernel_rfl) (by kernel_rfl) (by kernel_rfl) (Or.inl ⟨by rfl, fun w' hSw => ?_⟩) rfl ?_
      rotate_left
      · go_simp
        all_goals with_reducible rfl
      simp only [Act.put, List.setIfInBounds_toArray, List.set_cons_zero, List.set_cons_succ]
      refine ord_take (v := ?_) (i := 21) (fuel := 2) (by simp; rfl) (by kernel_rfl) (by kernel_rfl) (by kernel_rfl) (Or.inl ⟨by rfl, fun w' hSw => ?_⟩) rfl ?_
      rotate_left
      · dsimp only at hSw
        subst hSw
        have cc : wr.drew.cell? ⟨k2, j * 2 + 1, none⟩ = _ := q1
        go_simp
        all_goals with_reducible rfl
      simp only [Act.put, List.setIfInBounds_toArray, List.set_cons_zero, List.set_cons_succ]
      refine ord_take (v := ?_) (i := 22) (fuel := 1) (by simp; rfl) (by kernel_rfl) (by kernel_rfl) (by kernel_rfl) (Or.inl ⟨by rfl, fun w' hSw => ?_⟩) rfl ?_
      rotate_left
      · go_simp
        all_goals with_reducible rfl
      simp only [Act.put, List.setIfInBounds_toArray, List.set_cons_zero, List.set_cons_succ]
      refine ord_take (v := ?_) (i := 23) (fuel := 0) (by simp; rfl) (by kernel_rfl) (by kernel_rfl) (by kernel_rfl) (Or.inl ⟨by rfl, fun w' hSw => ?_⟩) rfl ?_
      rotate_left
      · go_simp
        all_goals with_reducible rfl
      simp only [Act.put, List.setIfInBounds_toArray, List.set_cons_zero, List.set_cons_succ]
      refine ord_done (by kernel_rfl) ?_ _
      clear r0 r1 q0 q1
      go_wp2
      go_roundw
      case rel => exact ⟨j + 1, by omega, by go_num, HB.out.drew⟩
      case measure => simp [intOf]; omega
    · have hjn' : ¬ (j : Int) < (n : Int) := by omega
      go_wp2
      go_ret
      exact ⟨rfl, HB.out⟩
end Go.Proofs.Ytkjckdndkljeeaa

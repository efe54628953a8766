/- Package roll: Records, add, blank. -/
import Derived.Test.YtkjckdndkljeeaaRollD
import Derived.WalkSpells
import Derived.Laws.AppendOwnNone
namespace Go.Proofs.Ytkjckdndkljeeaa
open Go.RowKit
/-- Cells that read as records, at A. -/
def Rcs (w : World) (A : Option Addr) (L : List Rec) : Prop := ∀ i (h : i < L.length), ∃ k, A = some ⟨k, 0, none⟩ ∧ k < w.heap.size ∧ w.cell? ⟨k, i * 2, none⟩ = some (.int .i64 L[i].seq) ∧ w.cell? ⟨k, i * 2 + 1, none⟩ = some (.string ⟨L[i].body.toArray⟩)
theorem Rcs.below {w w' : World} {A : Option Addr} {L : List Rec} (h : Rcs w A L) (hb : Below w.heap.size w w') : Rcs w' A L := fun i hi => by
  obtain ⟨k, e, hk, h1, h2⟩ := h i hi
  exact ⟨k, e, Nat.lt_of_lt_of_le hk hb.size, cel_below h1 hb, cel_below h2 hb⟩
theorem Rl.rcs {T E : TypeId} {w : World} {B p g c u : Nat} {a z : Int} {A : Option Addr} {L : List Rec} (h : Rl T E w B p g a z A c L u) : Rcs w A L := fun i hi => by
  obtain ⟨k, e, h1, h2⟩ := h.at_ hi
  exact ⟨k, e, World.block_lt_of_cell? w _ h1, h1, h2⟩
theorem rcs_own {E : TypeId} {w : World} {B k n c : Nat} {L : List Rec} (h : w.ownsRow B E 2 (.slice (some ⟨k, 0, none⟩) n c) n (recsV L)) : Rcs w (some ⟨k, 0, none⟩) L := fun i hi => by
  obtain ⟨h1, h2⟩ := recsV_at L i hi
  have e1 := h.cells (g := k) rfl _ _ h1
  have e2 := h.cells (g := k) rfl _ _ h2
  rw [Addr.add_lit, Nat.zero_add] at e1 e2
  exact ⟨k, rfl, World.block_lt_of_cell? w _ e1, e1, e2⟩
def RcE (w : World) (n : Nat) (L : List Rec) (e : Ending) (w' : World) : Prop := ∃ A' c', e = .returned (.slice A' n c') ∧ Rcs w' A' L ∧ Below w.heap.size w w'
theorem cel_but {w w' : World} {g i : Nat} {v : Value} {ex : List Nat} (h : w.cell? ⟨g, i, none⟩ = some v) (hb : But ex w w') (hx : g ∉ ex) : w'.cell? ⟨g, i, none⟩ = some v := (World.cell?_of_block (w := w) (hb.block g (World.block_lt_of_cell? w _ h) hx)).trans h
set_option maxRecDepth 100000 in
set_option maxHeartbeats 800000 in
theorem recClone_c (A : Option Addr) (n c : Nat) (L : List Rec) (w : World) (hn : L.length = n) (h : Rcs w A L) (hA : A = none → n = 0 ∧ c = 0) (hA2 : ∀ a, A = some a → a.off = 0 ∧ a.spot = none) (hm : n ≤ 1000000) :
    Calls Try.prog 36 #[.slice A n c] w (RcE w n L) := by
  obtain ⟨i0, hi, hz0, hz1, hz2⟩ := info_parts Try.recI
  have q : ∀ (w : World) (a : Option Addr) (n c n' c' : Nat), (binOp .eql 32 (.slice a n c) (.slice none n' c')).run Try.prog w = .ok (.bool a.isNone) w := fun w a n c n' c' => Lib.run_eql_slice_nil w _ _ a n c n' c' Try.recs
  subst hn
  cases A with
  | none =>
    obtain ⟨h0, rfl⟩ := hA rfl
    have HL := Lib.hid (show L = [] from List.eq_nil_of_length_eq_zero h0)
    rw [h0]
    go_enter Try.func36, Try.ntmps36
    go_wp2
    go_ret
    refine ⟨none, 0, rfl, ?_, Below.refl _ _⟩
    rw [HL.out]
    intro i hi
    cases hi
  | some ad =>
    obtain ⟨k, o, sp⟩ := ad
    obtain ⟨e1, e2⟩ := hA2 _ rfl
    simp only at e1 e2
    subst e1 e2
    have H := Lib.hid h
    obtain ⟨n, hn⟩ : ∃ n, L.length = n := ⟨_, rfl⟩
    have HN := Lib.hid hn
    rw [hn] at hm ⊢
    clear h hA hA2 hn
    have HZ := Lib.hid (show (w.alloc (.cells #[] 58)).ownsRow w.heap.size 58 2 (.slice (some ⟨w.heap.size, 0, none⟩) 0 0) 0 [] from World.ownsRow_made w #[] 0 (Nat.le_refl _) (by unfold maxLen; omega) rfl)
    have HW := Lib.hid (show ∀ j u, (recsV L)[j]? = some u → (w.alloc (.cells #[] 58)).cell? ((⟨k, 0, none⟩ : Addr).add j) = some u by
      intro j u hu
      have hb : Below w.heap.size w (w.alloc (.cells #[] 58)) := (Below.refl _ _).alloc (Nat.le_refl _) _
      have hj := (List.getElem?_eq_some_iff.1 hu).1
      rw [recsV_len] at hj
      obtain ⟨k', e, _, h1, h2⟩ := (H.out.below hb) (j / 2) (by omega)
      cases e
      obtain ⟨r1, r2⟩ := recsV_at L (j / 2) (by omega)
      rw [Addr.add_lit, Nat.zero_add]
      rcases (show j = j / 2 * 2 ∨ j = j / 2 * 2 + 1 by omega) with e | e
      · rw [← e] at h1 r1
        rw [h1, ← hu, r1]
      · rw [← e] at h2 r2
        rw [h2, ← hu, r2])
    go_enter Try.func36, Try.ntmps36
    go_wp2_with (at_builtin; refine wpList_append_own _ rfl (.tmp 5) (.tmp 6) _ rfl w.heap.size 58 i0 (.agg #[.int .i64 0, .string ⟨#[]⟩]) 2 24 Try.recs hi hz0 hz1 hz2 rfl (by decide) (.slice (some ⟨w.heap.size, 0, none⟩) 0 0) 0 [] rfl HZ.out ⟨k, 0, none⟩ n c (recsV L) rfl (by rw [recsV_len, HN.out]) HW.out (recsV_ones _) (by unfold maxLen; omega) (by omega) (by simp) ?_; intro v1 w1 hown hgrow hnil)
    go_ret
    have hB : Below w.heap.size w w1 := ((Below.refl _ _).alloc (Nat.le_refl _) _).grown hgrow (by simp) (fun k hk => by cases hk; exact Nat.le_refl _)
    rw [Nat.zero_add, List.nil_append] at hown
    rcases hown.2 with ⟨rfl, _⟩ | ⟨k', c', cur, rfl, rest⟩
    · have := hnil.1 rfl
      simp at this
    · exact ⟨some ⟨k', 0, none⟩, c', rfl, rcs_own hown, hB⟩
section
variable {w : World} {B p g c u : Nat} {a z : Int} {A : Option Addr} {L : List Rec}
theorem Rl.setU {T E : TypeId} (h : Rl T E w B p g a z A c L u) (hTE : T ≠ E) (u' : Nat) : Rl T E (w.setCell ⟨p, 4, none⟩ (.int .i64 u')) B p g a z A c L u' := by
  refine ⟨h.1.set_ 4 _, h.2.1, ?_⟩
  rcases h.2.2 with h0 | ⟨k, cap, cur, e, q1, q2, q3⟩
  · exact .inl h0
  · refine .inr ⟨k, cap, cur, e, q1, (Below.heap_setCell w ⟨p, 4, none⟩ _ k ?_).trans q2, q3⟩
    intro e5
    have h5 := h.1
    unfold Blk at h5
    simp only at e5
    rw [← e5] at h5
    have := h5.symm.trans q2
    simp at this
    exact hTE this.2
theorem Rl.nil_row {T E : TypeId} (h : Rl T E w B p g a z A c L u) : (A = none → L.length = 0 ∧ c = 0) ∧ (∀ ad, A = some ad → ad.off = 0 ∧ ad.spot = none) := by
  rcases h.row with ⟨rfl, rfl, rfl⟩ | ⟨k, cur, rfl, _⟩
  · exact ⟨(fun _ => ⟨rfl, rfl⟩), (fun _ e => by cases e)⟩
  · exact ⟨(fun e => by cases e), (fun _ e => by cases e; exact ⟨rfl, rfl⟩)⟩
set_option maxRecDepth 100000 in
set_option maxHeartbeats 800000 in
theorem records_c (n : Nat) (h : RlG w B p g a z A c L u) (hn : L.length = n) (hm : n ≤ 1000000) : Calls Try.prog 13 #[.pointer (some ⟨p, 0, none⟩)] w (RcE w n L) := by
  subst hn
  obtain ⟨lp, x0, x1, x2, x3, x4⟩ := h.cells
  have HR := Lib.hid h.rcs
  have HN := Lib.hid h.nil_row
  clear h
  go_enter Try.func13, Try.ntmps13
  go_wp2_with fail
  (with_reducible refine (recClone_c A L.length c L _ rfl HR.out HN.out.1 HN.out.2 hm).mono ?_)
  rintro e w1 ⟨A', c', rfl, hr, hb⟩
  go_wp2
  go_ret
  exact ⟨A', c', rfl, hr, hb⟩
def AdE (w : World) (B p g : Nat) (a z : Int) (A : Option Addr) (L : List Rec) (u : Nat) (e : Ending) (w' : World) : Prop := e = .returned (.tuple #[]) ∧ ∃ A' c', RlG w' B p g a z A' c' L u ∧ But (p :: rowOf A) w w'
set_option maxRecDepth 100000 in
set_option maxHeartbeats 1600000 in
theorem add_c (q : Int) (t : List UInt8) (m : Nat) (h : RlG w B p g a z A c L u) (hL : L.length ≤ 1000000) (hB : B ≤ w.heap.size) (hu : u ≤ 1000000) (hm : m ≤ 1000000) :
    Calls Try.prog 35 #[.pointer (some ⟨p, 0, none⟩), .agg #[.int .i64 q, .string ⟨t.toArray⟩], .int .i64 (m : Int)] w (AdE w B p g a z A (L ++ [⟨q, t⟩]) (u + m)) := by
  have H := Lib.hid h
  clear h
  go_enter Try.func35, Try.ntmps35
  go_upto_region 1 with fail
  obtain ⟨W, hW⟩ : ∃ W, w.alloc (.cells #[.int .i64 q, .string ⟨t.toArray⟩] 58) = W := ⟨_, rfl⟩
  have hb : Below w.heap.size w W := by rw [← hW]; exact (Below.refl _ _).alloc (Nat.le_refl _) _
  obtain ⟨k, hk⟩ : ∃ k, w.heap.size = k := ⟨_, rfl⟩
  have HK := Lib.hid (show Blk W k 58 #[.int .i64 q, .string ⟨t.toArray⟩] by rw [← hW, ← hk]; exact Blk.new _ _ _)
  have HW := Lib.hid (H.out.below hb)
  have HB := Lib.hid hb
  rw [hW, hk]
  clear hW hb
  obtain ⟨k3, hk3⟩ : ∃ k3, W.heap.size = k3 := ⟨_, rfl⟩
  obtain ⟨W3, hW3⟩ : ∃ W3, W.drew.alloc (.cells #[.int .i64 q, .string ⟨t.toArray⟩] 58) = W3 := ⟨_, rfl⟩
  have hb3 : Below W.heap.size W W3 := by rw [← hW3]; exact (Below.refl _ _).drew.alloc (Nat.le_refl _) _
  have HK3 := Lib.hid (show Blk W3 k3 58 #[.int .i64 q, .string ⟨t.toArray⟩] by rw [← hW3, ← hk3]; exact Blk.new W.drew _ _)
  have HR3 := Lib.hid (HW.out.below hb3)
  have HB3 := Lib.hid hb3
  have hBW3 : B ≤ W3.heap.size := by have := HB.out.size; have := hb3.size; omega
  clear hb3
  have HX := Lib.hid (show k ∉ p :: rowOf A by
    intro hm
    obtain ⟨l1, l2⟩ := H.out.lt
    rcases List.mem_cons.1 hm with e | hm
    · omega
    · have := (l2 k hm).1
      omega)
  have HSd := Lib.hid (show W.drew.cell? ⟨k, 0, none⟩ = some (.int .i64 q) ∧ W.drew.cell? ⟨k, 1, none⟩ = some (.string ⟨t.toArray⟩) from (blk2 HK.out).2)
  have HS3 := Lib.hid (show W3.cell? ⟨k, 0, none⟩ = some (.int .i64 q) ∧ W3.cell? ⟨k, 1, none⟩ = some (.string ⟨t.toArray⟩) from ⟨cel_below (blk2 HK.out).2.1 HB3.out, cel_below (blk2 HK.out).2.2 HB3.out⟩)
  refine wp_region_ord (S := fun V => V.cell? ⟨k, 0, none⟩ = some (.int .i64 q) ∧ V.cell? ⟨k, 1, none⟩ = some (.string ⟨t.toArray⟩)) (by kernel_rfl) ?_
  refine ord_take (v := ?_) (i := 0) (fuel := 10) (by simp; rfl) (by kernel_rfl) (by kernel_rfl) (by kernel_rfl) (Or.inl ⟨by rfl, fun w' hSw => ?_⟩) HSd.out ?_
  rotate_left
  · go_simp
    all_goals with_reducible rfl
  simp only [Act.put, List.setIfInBounds_toArray, List.set_cons_zero, List.set_cons_succ]
  refine ord_take (v := ?_) (i := 1) (fuel := 9) (by simp; rfl) (by kernel_rfl) (by kernel_rfl) (by kernel_rfl) (Or.inl ⟨by rfl, fun w' hSw => ?_⟩) HSd.out ?_
  rotate_left
  · go_simp
    all_goals with_reducible rfl
  simp only [Act.put, List.setIfInBounds_toArray, List.set_cons_zero, List.set_cons_succ]
  refine ord_take (v := ?_) (i := 2) (fuel := 8) (by simp; rfl) (by kernel_rfl) (by kernel_rfl) (by kernel_rfl) (Or.inl ⟨by rfl, fun w' hSw => ?_⟩) HSd.out ?_
  rotate_left
  · go_simp
    all_goals with_reducible rfl
  simp only [Act.put, List.setIfInBounds_toArray, List.set_cons_zero, List.set_cons_succ]
  refine ord_take (v := ?_) (i := 3) (fuel := 7) (by simp; rfl) (by kernel_rfl) (by kernel_rfl) (by kernel_rfl) (Or.inl ⟨by rfl, fun w' hSw => ?_⟩) HSd.out ?_
  rotate_left
  · go_simp
    all_goals with_reducible rfl
  simp only [Act.put, List.setIfInBounds_toArray, List.set_cons_zero, List.set_cons_succ]
  refine ord_take (v := ?_) (i := 5) (fuel := 6) (by simp; rfl) (by kernel_rfl) (by kernel_rfl) (by kernel_rfl) (Or.inl ⟨by rfl, fun w' hSw => ?_⟩) HSd.out ?_
  rotate_left
  · obtain ⟨y0, y1⟩ := hSw
    go_simp
    all_goals with_reducible rfl
  simp only [Act.put, List.setIfInBounds_toArray, List.set_cons_zero, List.set_cons_succ]
  refine ord_two (i := 4) (j := 6) (fuel := 5) (by kernel_rfl) ?_ ?_
  · as_aux_lemma =>
    have cc : W.drew.cell? ⟨p, 3, none⟩ = some (.slice A L.length c) := HW.out.cells.2.2.2.2.1
    refine ordI_only (v := .slice A L.length c) (w' := W.drew) (by simp; rfl) (by rfl) ?_ HSd.out ?_
    · go_simp
      all_goals with_reducible rfl
    simp only [Act.put, List.setIfInBounds_toArray, List.set_cons_zero, List.set_cons_succ]
    refine ord_only (v := .slice (some ⟨k3, 0, none⟩) 1 1) (w' := W3) (i := 6) (fuel := 4) (by simp; rfl) (by kernel_rfl) (by rfl) ?_ HS3.out ?_
    · rw [← hW3, ← hk3]
      go_simp
      all_goals with_reducible rfl
    simp only [Act.put, List.setIfInBounds_toArray, List.set_cons_zero, List.set_cons_succ]
    clear cc
    obtain ⟨k', c', w4, hrun, hR4, hb4, c4, f4, hb4'⟩ := HR3.out.app Try.recs Try.recI (by decide) ⟨q, t⟩ HK3.out hL hBW3 32
    have HR4 := Lib.hid hR4
    have HB4 := Lib.hid hb4
    have HS4 := Lib.hid (show w4.cell? ⟨k, 0, none⟩ = some (.int .i64 q) ∧ w4.cell? ⟨k, 1, none⟩ = some (.string ⟨t.toArray⟩) from ⟨cel_but HS3.out.1 hb4' HX.out, cel_but HS3.out.2 hb4' HX.out⟩)
    have HS5 := Lib.hid (show (w4.setCell ⟨p, 3, none⟩ (.slice (some ⟨k', 0, none⟩) (L.length + 1) c')).cell? ⟨k, 0, none⟩ = some (.int .i64 q) ∧ (w4.setCell ⟨p, 3, none⟩ (.slice (some ⟨k', 0, none⟩) (L.length + 1) c')).cell? ⟨k, 1, none⟩ = some (.string ⟨t.toArray⟩) from ⟨cel_but HS3.out.1 hb4 HX.out, cel_but HS3.out.2 hb4 HX.out⟩)
    clear hR4 hb4 hb4'
    refine ord_only (v := .slice (some ⟨k', 0, none⟩) (L.length + 1) c') (w' := w4) (i := 7) (fuel := 3) (by simp; rfl) (by kernel_rfl) (by rfl) ?_ HS4.out ?_
    · refine (append_run (s := .tmp 10) (x := .tmp 12) (v := .slice A L.length c) (xv := .slice (some ⟨k3, 0, none⟩) 1 1) rfl (by rfl) (by rfl) hrun).trans ?_
      with_reducible rfl
    simp only [Act.put, List.setIfInBounds_toArray, List.set_cons_zero, List.set_cons_succ]
    refine ord_take (v := ?_) (i := 8) (fuel := 2) (by simp; rfl) (by kernel_rfl) (by kernel_rfl) (by kernel_rfl) (Or.inl ⟨by rfl, fun w' hSw => ?_⟩) HS4.out ?_
    rotate_left
    · go_simp
      all_goals with_reducible rfl
    simp only [Act.put, List.setIfInBounds_toArray, List.set_cons_zero, List.set_cons_succ]
    refine ord_take (v := ?_) (i := 9) (fuel := 1) (by simp; rfl) (by kernel_rfl) (by kernel_rfl) (by kernel_rfl) (Or.inl ⟨by rfl, fun w' hSw => ?_⟩) HS4.out ?_
    rotate_left
    · go_simp
      all_goals with_reducible rfl
    simp only [Act.put, List.setIfInBounds_toArray, List.set_cons_zero, List.set_cons_succ]
    refine ord_skip (w' := w4.setCell ⟨p, 3, none⟩ (.slice (some ⟨k', 0, none⟩) (L.length + 1) c')) (i := 10) (fuel := 0) (by simp; rfl) (by kernel_rfl) (by rfl) (by rfl) ?_ HS5.out ?_
    · go_simp
      all_goals with_reducible rfl
    refine ord_done (by kernel_rfl) ?_ _
    clear c4 f4
    obtain ⟨W4, hW4⟩ : ∃ W4, w4.setCell ⟨p, 3, none⟩ (.slice (some ⟨k', 0, none⟩) (L.length + 1) c') = W4 := ⟨_, rfl⟩
    rw [hW4] at HR4 HB4 ⊢
    clear hW4 hrun HS4 HS5
    obtain ⟨lp, x0, x1, x2, x3, x4⟩ := HR4.out.cells
    have f4 := HR4.out.1.frozen 4
    go_wp2
    go_end0
    refine ⟨rfl, some ⟨k', 0, none⟩, c', HR4.out.setU (by decide) _, ?_⟩
    exact ((But.of_below HB.out _).trans ((But.of_below HB3.out _).trans HB4.out)).setCell (p := ⟨p, 4, none⟩) (by simp) _
  · as_aux_lemma =>
    refine ordI_only (v := .slice (some ⟨k3, 0, none⟩) 1 1) (w' := W3) (by simp; rfl) (by rfl) ?_ HS3.out ?_
    · rw [← hW3, ← hk3]
      go_simp
      all_goals with_reducible rfl
    simp only [Act.put, List.setIfInBounds_toArray, List.set_cons_zero, List.set_cons_succ]
    have cc : W3.cell? ⟨p, 3, none⟩ = some (.slice A L.length c) := HR3.out.cells.2.2.2.2.1
    refine ord_only (v := .slice A L.length c) (w' := W3) (i := 4) (fuel := 4) (by simp; rfl) (by kernel_rfl) (by rfl) ?_ HS3.out ?_
    · go_simp
      all_goals with_reducible rfl
    simp only [Act.put, List.setIfInBounds_toArray, List.set_cons_zero, List.set_cons_succ]
    clear cc
    obtain ⟨k', c', w4, hrun, hR4, hb4, c4, f4, hb4'⟩ := HR3.out.app Try.recs Try.recI (by decide) ⟨q, t⟩ HK3.out hL hBW3 32
    have HR4 := Lib.hid hR4
    have HB4 := Lib.hid hb4
    have HS4 := Lib.hid (show w4.cell? ⟨k, 0, none⟩ = some (.int .i64 q) ∧ w4.cell? ⟨k, 1, none⟩ = some (.string ⟨t.toArray⟩) from ⟨cel_but HS3.out.1 hb4' HX.out, cel_but HS3.out.2 hb4' HX.out⟩)
    have HS5 := Lib.hid (show (w4.setCell ⟨p, 3, none⟩ (.slice (some ⟨k', 0, none⟩) (L.length + 1) c')).cell? ⟨k, 0, none⟩ = some (.int .i64 q) ∧ (w4.setCell ⟨p, 3, none⟩ (.slice (some ⟨k', 0, none⟩) (L.length + 1) c')).cell? ⟨k, 1, none⟩ = some (.string ⟨t.toArray⟩) from ⟨cel_but HS3.out.1 hb4 HX.out, cel_but HS3.out.2 hb4 HX.out⟩)
    clear hR4 hb4 hb4'
    refine ord_only (v := .slice (some ⟨k', 0, none⟩) (L.length + 1) c') (w' := w4) (i := 7) (fuel := 3) (by simp; rfl) (by kernel_rfl) (by rfl) ?_ HS4.out ?_
    · refine (append_run (s := .tmp 10) (x := .tmp 12) (v := .slice A L.length c) (xv := .slice (some ⟨k3, 0, none⟩) 1 1) rfl (by rfl) (by rfl) hrun).trans ?_
      with_reducible rfl
    simp only [Act.put, List.setIfInBounds_toArray, List.set_cons_zero, List.set_cons_succ]
    refine ord_take (v := ?_) (i := 8) (fuel := 2) (by simp; rfl) (by kernel_rfl) (by kernel_rfl) (by kernel_rfl) (Or.inl ⟨by rfl, fun w' hSw => ?_⟩) HS4.out ?_
    rotate_left
    · go_simp
      all_goals with_reducible rfl
    simp only [Act.put, List.setIfInBounds_toArray, List.set_cons_zero, List.set_cons_succ]
    refine ord_take (v := ?_) (i := 9) (fuel := 1) (by simp; rfl) (by kernel_rfl) (by kernel_rfl) (by kernel_rfl) (Or.inl ⟨by rfl, fun w' hSw => ?_⟩) HS4.out ?_
    rotate_left
    · go_simp
      all_goals with_reducible rfl
    simp only [Act.put, List.setIfInBounds_toArray, List.set_cons_zero, List.set_cons_succ]
    refine ord_skip (w' := w4.setCell ⟨p, 3, none⟩ (.slice (some ⟨k', 0, none⟩) (L.length + 1) c')) (i := 10) (fuel := 0) (by simp; rfl) (by kernel_rfl) (by rfl) (by rfl) ?_ HS5.out ?_
    · go_simp
      all_goals with_reducible rfl
    refine ord_done (by kernel_rfl) ?_ _
    clear c4 f4
    obtain ⟨W4, hW4⟩ : ∃ W4, w4.setCell ⟨p, 3, none⟩ (.slice (some ⟨k', 0, none⟩) (L.length + 1) c') = W4 := ⟨_, rfl⟩
    rw [hW4] at HR4 HB4 ⊢
    clear hW4 hrun HS4 HS5
    obtain ⟨lp, x0, x1, x2, x3, x4⟩ := HR4.out.cells
    have f4 := HR4.out.1.frozen 4
    go_wp2
    go_end0
    refine ⟨rfl, some ⟨k', 0, none⟩, c', HR4.out.setU (by decide) _, ?_⟩
    exact ((But.of_below HB.out _).trans ((But.of_below HB3.out _).trans HB4.out)).setCell (p := ⟨p, 4, none⟩) (by simp) _
end
end Go.Proofs.Ytkjckdndkljeeaa

/- Package roll: what of its own memory is new: add, Append, Records. -/
import Derived.Test.YtkjckdndkljeeaaRollW
namespace Go.Proofs.Ytkjckdndkljeeaa
open Go.RowKit
/-- A row that is the one that was, or newer than all that was. -/
def New7 (w : World) (A A' : Option Addr) : Prop := ∀ k ∈ rowOf A', k ∈ rowOf A ∨ w.heap.size ≤ k
theorem New7.same (w : World) (A : Option Addr) : New7 w A A := fun _ h => .inl h
theorem New7.less {w w' : World} {A A' : Option Addr} (h : New7 w' A A') (hs : w.heap.size ≤ w'.heap.size) : New7 w A A' := fun k hk => by
  rcases h k hk with h | h
  · exact .inl h
  · exact .inr (by omega)
theorem Rl.app_new {T E TS : TypeId} (hts : Try.prog.underlying TS = some (.slice E)) (hie : (Try.prog.info? E).map (fun i => (i.zero, i.size, i.bytes)) = some (some (.agg #[.int .i64 0, .string ⟨#[]⟩]), 2, 24)) (hTE : T ≠ E)
    {w : World} {B p g c u k : Nat} {a z : Int} {A : Option Addr} {L : List Rec} (h : Rl T E w B p g a z A c L u) (r : Rec) (hk : Blk w k E #[.int .i64 r.seq, .string ⟨r.body.toArray⟩]) (hL : L.length ≤ 1000000) (hB : B ≤ w.heap.size) (ty : TypeId) :
    ∃ k' c' w', (Builtin.append_ #[TS, TS] ty #[.slice A L.length c, .slice (some ⟨k, 0, none⟩) 1 1]).run Try.prog w = .ok (.slice (some ⟨k', 0, none⟩) (L.length + 1) c') w' ∧
      Rl T E (w'.setCell ⟨p, 3, none⟩ (.slice (some ⟨k', 0, none⟩) (L.length + 1) c')) B p g a z (some ⟨k', 0, none⟩) c' (L ++ [r]) u ∧ But (p :: rowOf A) w (w'.setCell ⟨p, 3, none⟩ (.slice (some ⟨k', 0, none⟩) (L.length + 1) c')) ∧
      w'.cell? ⟨p, 3, none⟩ = some (.slice A L.length c) ∧ w'.frozen? ⟨p, 3, none⟩ = false ∧ But (p :: rowOf A) w w' ∧ New7 w A (some ⟨k', 0, none⟩) := by
  obtain ⟨k', c', w', hr, h1, h2, h3, h4, h5⟩ := h.app hts hie hTE r hk hL hB ty
  refine ⟨k', c', w', hr, h1, h2, h3, h4, h5, ?_⟩
  obtain ⟨i0, hi, hz0, hz1, hz2⟩ := info_parts hie
  have hnews : ∀ j u, (recsV [r])[j]? = some u → w.cell? ((⟨k, 0, none⟩ : Addr).add j) = some u := fun j u hu => by
    rw [Addr.add_lit, Nat.zero_add, Blk.cell hk, recsV_one] at *
    rw [← hu, ← List.getElem?_toArray]
  have key : (rowOf A = [k']) ∨ w.heap.size = k' := by
    rcases h.row with ⟨rfl, rfl, rfl⟩ | ⟨kk, cur, rfl, hBk, hc, hle, hcm, hcs, htk⟩
    · have := run_append_nil (P := Try.prog) w TS ty E i0 _ hts hi hz0 ⟨k, 0, none⟩ 1 1 (recsV [r]) (by rw [hz1]; rfl) hnews (by omega) (by omega) (by rw [hz2]; omega)
      rw [show ([] : List Rec).length = 0 from rfl] at hr
      rw [this] at hr
      injection hr with e1 e2
      injection e1 with e3
      injection e3 with e4
      injection e4 with e5
      exact .inr e5
    · by_cases hroom : L.length + 1 ≤ c
      · have := run_append_room (P := Try.prog) w TS ty E i0 hts hi kk L.length c cur hc ⟨k, 0, none⟩ 1 1 (recsV [r]) (by rw [hz1]; rfl) hnews (recsV_ones _) hroom (by rw [hz1, hcs, recsV_len]; simp only [List.length_cons, List.length_nil]; omega)
        rw [this] at hr
        injection hr with e1 e2
        injection e1 with e3
        injection e3 with e4
        injection e4 with e5
        exact .inl (by rw [e5]; rfl)
      · have := run_append_grow (P := Try.prog) w TS ty E i0 _ hts hi hz0 ⟨kk, 0, none⟩ L.length c (recsV L) (by rw [hz1, recsV_len]) (fun j u hu => by
          have h2 := h.2
          exact h2.cells (g := kk) rfl j u hu) ⟨k, 0, none⟩ 1 1 (recsV [r]) (by rw [hz1]; rfl) hnews (by omega) (by omega) (growslice_fits (by omega) (by rw [hz2]; omega))
        rw [this] at hr
        injection hr with e1 e2
        injection e1 with e3
        injection e3 with e4
        injection e4 with e5
        exact .inr e5
  intro x hx
  simp only [rowOf, List.mem_cons, List.not_mem_nil, or_false] at hx
  subst hx
  rcases key with e | e
  · exact .inl (by rw [e]; exact List.mem_cons_self)
  · exact .inr (by omega)
section
variable {w : World} {B p g c u : Nat} {a z : Int} {A : Option Addr} {L : List Rec}
def AdF (w : World) (B p g : Nat) (a z : Int) (A : Option Addr) (L : List Rec) (u : Nat) (e : Ending) (w' : World) : Prop := e = .returned (.tuple #[]) ∧ ∃ A' c', RlG w' B p g a z A' c' L u ∧ But (p :: rowOf A) w w' ∧ New7 w A A'
set_option maxRecDepth 100000 in
set_option maxHeartbeats 1600000 in
theorem add_f (q : Int) (t : List UInt8) (m : Nat) (h : RlG w B p g a z A c L u) (hL : L.length ≤ 1000000) (hB : B ≤ w.heap.size) (hu : u ≤ 1000000) (hm : m ≤ 1000000) :
    Calls Try.prog 35 #[.pointer (some ⟨p, 0, none⟩), .agg #[.int .i64 q, .string ⟨t.toArray⟩], .int .i64 (m : Int)] w (AdF w B p g a z A (L ++ [⟨q, t⟩]) (u + m)) := by
  have H := Lib.hid h
  clear h
  go_enter Try.func35, Try.ntmps35
  go_upto_region 1 with fail
  obtain ⟨W, hW⟩ : ∃ W, w.alloc (.cells #[.int .i64 q, .string ⟨t.toArray⟩] 58) = W := ⟨_, rfl⟩
  have hb : Below w.heap.size w W := by rw [← hW]; exact (Below.refl _ _).alloc (Nat.le_refl _) _
  obtain ⟨k, hk⟩ : ∃ k, w.heap.size = k := ⟨_, rfl⟩
  have HK := Lib.hid (show Blk W k 58 #[.int .i64 q, .string ⟨t.toArray⟩] by rw [← hW, ← hk]; exact Blk.new _ _ _)
  have HW := Lib.hid (H.out.below hb)
  have HB := Lib.hid hb
  rw [hW, hk]
  clear hW hb
  obtain ⟨k3, hk3⟩ : ∃ k3, W.heap.size = k3 := ⟨_, rfl⟩
  obtain ⟨W3, hW3⟩ : ∃ W3, W.drew.alloc (.cells #[.int .i64 q, .string ⟨t.toArray⟩] 58) = W3 := ⟨_, rfl⟩
  have hb3 : Below W.heap.size W W3 := by rw [← hW3]; exact (Below.refl _ _).drew.alloc (Nat.le_refl _) _
  have HK3 := Lib.hid (show Blk W3 k3 58 #[.int .i64 q, .string ⟨t.toArray⟩] by rw [← hW3, ← hk3]; exact Blk.new W.drew _ _)
  have HR3 := Lib.hid (HW.out.below hb3)
  have HB3 := Lib.hid hb3
  have hBW3 : B ≤ W3.heap.size := by have := HB.out.size; have := hb3.size; omega
  clear hb3
  have HX := Lib.hid (show k ∉ p :: rowOf A by
    intro hm
    obtain ⟨l1, l2⟩ := H.out.lt
    rcases List.mem_cons.1 hm with e | hm
    · omega
    · have := (l2 k hm).1
      omega)
  have HSd := Lib.hid (show W.drew.cell? ⟨k, 0, none⟩ = some (.int .i64 q) ∧ W.drew.cell? ⟨k, 1, none⟩ = some (.string ⟨t.toArray⟩) from (blk2 HK.out).2)
  have HS3 := Lib.hid (show W3.cell? ⟨k, 0, none⟩ = some (.int .i64 q) ∧ W3.cell? ⟨k, 1, none⟩ = some (.string ⟨t.toArray⟩) from ⟨cel_below (blk2 HK.out).2.1 HB3.out, cel_below (blk2 HK.out).2.2 HB3.out⟩)
  refine wp_region_ord (S := fun V => V.cell? ⟨k, 0, none⟩ = some (.int .i64 q) ∧ V.cell? ⟨k, 1, none⟩ = some (.string ⟨t.toArray⟩)) (by kernel_rfl) ?_
  refine ord_take (v := ?_) (i := 0) (fuel := 10) (by simp; rfl) (by kernel_rfl) (by kernel_rfl) (by kernel_rfl) (Or.inl ⟨by rfl, fun w' hSw => ?_⟩) HSd.out ?_
  rotate_left
  · go_simp
    all_goals with_reducible rfl
  simp only [Act.put, List.setIfInBounds_toArray, List.set_cons_zero, List.set_cons_succ]
  refine ord_take (v := ?_) (i := 1) (fuel := 9) (by simp; rfl) (by kernel_rfl) (by kernel_rfl) (by kernel_rfl) (Or.inl ⟨by rfl, fun w' hSw => ?_⟩) HSd.out ?_
  rotate_left
  · go_simp
    all_goals with_reducible rfl
  simp only [Act.put, List.setIfInBounds_toArray, List.set_cons_zero, List.set_cons_succ]
  refine ord_take (v := ?_) (i := 2) (fuel := 8) (by simp; rfl) (by kernel_rfl) (by kernel_rfl) (by kernel_rfl) (Or.inl ⟨by rfl, fun w' hSw => ?_⟩) HSd.out ?_
  rotate_left
  · go_simp
    all_goals with_reducible rfl
  simp only [Act.put, List.setIfInBounds_toArray, List.set_cons_zero, List.set_cons_succ]
  refine ord_take (v := ?_) (i := 3) (fuel := 7) (by simp; rfl) (by kernel_rfl) (by kernel_rfl) (by kernel_rfl) (Or.inl ⟨by rfl, fun w' hSw => ?_⟩) HSd.out ?_
  rotate_left
  · go_simp
    all_goals with_reducible rfl
  simp only [Act.put, List.setIfInBounds_toArray, List.set_cons_zero, List.set_cons_succ]
  refine ord_take (v := ?_) (i := 5) (fuel := 6) (by simp; rfl) (by kernel_rfl) (by kernel_rfl) (by kernel_rfl) (Or.inl ⟨by rfl, fun w' hSw => ?_⟩) HSd.out ?_
  rotate_left
  · obtain ⟨y0, y1⟩ := hSw
    go_simp
    all_goals with_reducible rfl
  simp only [Act.put, List.setIfInBounds_toArray, List.set_cons_zero, List.set_cons_succ]
  refine ord_two (i := 4) (j := 6) (fuel := 5) (by kernel_rfl) ?_ ?_
  · as_aux_lemma =>
    have cc : W.drew.cell? ⟨p, 3, none⟩ = some (.slice A L.length c) := HW.out.cells.2.2.2.2.1
    refine ordI_only (v := .slice A L.length c) (w' := W.drew) (by simp; rfl) (by rfl) ?_ HSd.out ?_
    · go_simp
      all_goals with_reducible rfl
    simp only [Act.put, List.setIfInBounds_toArray, List.set_cons_zero, List.set_cons_succ]
    refine ord_only (v := .slice (some ⟨k3, 0, none⟩) 1 1) (w' := W3) (i := 6) (fuel := 4) (by simp; rfl) (by kernel_rfl) (by rfl) ?_ HS3.out ?_
    · rw [← hW3, ← hk3]
      go_simp
      all_goals with_reducible rfl
    simp only [Act.put, List.setIfInBounds_toArray, List.set_cons_zero, List.set_cons_succ]
    clear cc
    obtain ⟨k', c', w4, hrun, hR4, hb4, c4, f4, hb4', hnw⟩ := HR3.out.app_new Try.recs Try.recI (by decide) ⟨q, t⟩ HK3.out hL hBW3 32
    have HR4 := Lib.hid hR4
    have HB4 := Lib.hid hb4
    have HNW := Lib.hid (hnw.less (w := w) (by have := HB.out.size; have := HB3.out.size; omega))
    have HS4 := Lib.hid (show w4.cell? ⟨k, 0, none⟩ = some (.int .i64 q) ∧ w4.cell? ⟨k, 1, none⟩ = some (.string ⟨t.toArray⟩) from ⟨cel_but HS3.out.1 hb4' HX.out, cel_but HS3.out.2 hb4' HX.out⟩)
    have HS5 := Lib.hid (show (w4.setCell ⟨p, 3, none⟩ (.slice (some ⟨k', 0, none⟩) (L.length + 1) c')).cell? ⟨k, 0, none⟩ = some (.int .i64 q) ∧ (w4.setCell ⟨p, 3, none⟩ (.slice (some ⟨k', 0, none⟩) (L.length + 1) c')).cell? ⟨k, 1, none⟩ = some (.string ⟨t.toArray⟩) from ⟨cel_but HS3.out.1 hb4 HX.out, cel_but HS3.out.2 hb4 HX.out⟩)
    clear hR4 hb4 hb4' hnw
    refine ord_only (v := .slice (some ⟨k', 0, none⟩) (L.length + 1) c') (w' := w4) (i := 7) (fuel := 3) (by simp; rfl) (by kernel_rfl) (by rfl) ?_ HS4.out ?_
    · refine (append_run (s := .tmp 10) (x := .tmp 12) (v := .slice A L.length c) (xv := .slice (some ⟨k3, 0, none⟩) 1 1) rfl (by rfl) (by rfl) hrun).trans ?_
      with_reducible rfl
    simp only [Act.put, List.setIfInBounds_toArray, List.set_cons_zero, List.set_cons_succ]
    refine ord_take (v := ?_) (i := 8) (fuel := 2) (by simp; rfl) (by kernel_rfl) (by kernel_rfl) (by kernel_rfl) (Or.inl ⟨by rfl, fun w' hSw => ?_⟩) HS4.out ?_
    rotate_left
    · go_simp
      all_goals with_reducible rfl
    simp only [Act.put, List.setIfInBounds_toArray, List.set_cons_zero, List.set_cons_succ]
    refine ord_take (v := ?_) (i := 9) (fuel := 1) (by simp; rfl) (by kernel_rfl) (by kernel_rfl) (by kernel_rfl) (Or.inl ⟨by rfl, fun w' hSw => ?_⟩) HS4.out ?_
    rotate_left
    · go_simp
      all_goals with_reducible rfl
    simp only [Act.put, List.setIfInBounds_toArray, List.set_cons_zero, List.set_cons_succ]
    refine ord_skip (w' := w4.setCell ⟨p, 3, none⟩ (.slice (some ⟨k', 0, none⟩) (L.length + 1) c')) (i := 10) (fuel := 0) (by simp; rfl) (by kernel_rfl) (by rfl) (by rfl) ?_ HS5.out ?_
    · go_simp
      all_goals with_reducible rfl
    refine ord_done (by kernel_rfl) ?_ _
    clear c4 f4
    obtain ⟨W4, hW4⟩ : ∃ W4, w4.setCell ⟨p, 3, none⟩ (.slice (some ⟨k', 0, none⟩) (L.length + 1) c') = W4 := ⟨_, rfl⟩
    rw [hW4] at HR4 HB4 ⊢
    clear hW4 hrun HS4 HS5
    obtain ⟨lp, x0, x1, x2, x3, x4⟩ := HR4.out.cells
    have f4 := HR4.out.1.frozen 4
    go_wp2
    go_end0
    refine ⟨rfl, some ⟨k', 0, none⟩, c', HR4.out.setU (by decide) _, ?_, HNW.out⟩
    exact ((But.of_below HB.out _).trans ((But.of_below HB3.out _).trans HB4.out)).setCell (p := ⟨p, 4, none⟩) (by simp) _
  · as_aux_lemma =>
    refine ordI_only (v := .slice (some ⟨k3, 0, none⟩) 1 1) (w' := W3) (by simp; rfl) (by rfl) ?_ HS3.out ?_
    · rw [← hW3, ← hk3]
      go_simp
      all_goals with_reducible rfl
    simp only [Act.put, List.setIfInBounds_toArray, List.set_cons_zero, List.set_cons_succ]
    have cc : W3.cell? ⟨p, 3, none⟩ = some (.slice A L.length c) := HR3.out.cells.2.2.2.2.1
    refine ord_only (v := .slice A L.length c) (w' := W3) (i := 4) (fuel := 4) (by simp; rfl) (by kernel_rfl) (by rfl) ?_ HS3.out ?_
    · go_simp
      all_goals with_reducible rfl
    simp only [Act.put, List.setIfInBounds_toArray, List.set_cons_zero, List.set_cons_succ]
    clear cc
    obtain ⟨k', c', w4, hrun, hR4, hb4, c4, f4, hb4', hnw⟩ := HR3.out.app_new Try.recs Try.recI (by decide) ⟨q, t⟩ HK3.out hL hBW3 32
    have HR4 := Lib.hid hR4
    have HB4 := Lib.hid hb4
    have HNW := Lib.hid (hnw.less (w := w) (by have := HB.out.size; have := HB3.out.size; omega))
    have HS4 := Lib.hid (show w4.cell? ⟨k, 0, none⟩ = some (.int .i64 q) ∧ w4.cell? ⟨k, 1, none⟩ = some (.string ⟨t.toArray⟩) from ⟨cel_but HS3.out.1 hb4' HX.out, cel_but HS3.out.2 hb4' HX.out⟩)
    have HS5 := Lib.hid (show (w4.setCell ⟨p, 3, none⟩ (.slice (some ⟨k', 0, none⟩) (L.length + 1) c')).cell? ⟨k, 0, none⟩ = some (.int .i64 q) ∧ (w4.setCell ⟨p, 3, none⟩ (.slice (some ⟨k', 0, none⟩) (L.length + 1) c')).cell? ⟨k, 1, none⟩ = some (.string ⟨t.toArray⟩) from ⟨cel_but HS3.out.1 hb4 HX.out, cel_but HS3.out.2 hb4 HX.out⟩)
    clear hR4 hb4 hb4' hnw
    refine ord_only (v := .slice (some ⟨k', 0, none⟩) (L.length + 1) c') (w' := w4) (i := 7) (fuel := 3) (by simp; rfl) (by kernel_rfl) (by rfl) ?_ HS4.out ?_
    · refine (append_run (s := .tmp 10) (x := .tmp 12) (v := .slice A L.length c) (xv := .slice (some ⟨k3, 0, none⟩) 1 1) rfl (by rfl) (by rfl) hrun).trans ?_
      with_reducible rfl
    simp only [Act.put, List.setIfInBounds_toArray, List.set_cons_zero, List.set_cons_succ]
    refine ord_take (v := ?_) (i := 8) (fuel := 2) (by simp; rfl) (by kernel_rfl) (by kernel_rfl) (by kernel_rfl) (Or.inl ⟨by rfl, fun w' hSw => ?_⟩) HS4.out ?_
    rotate_left
    · go_simp
      all_goals with_reducible rfl
    simp only [Act.put, List.setIfInBounds_toArray, List.set_cons_zero, List.set_cons_succ]
    refine ord_take (v := ?_) (i := 9) (fuel := 1) (by simp; rfl) (by kernel_rfl) (by kernel_rfl) (by kernel_rfl) (Or.inl ⟨by rfl, fun w' hSw => ?_⟩) HS4.out ?_
    rotate_left
    · go_simp
      all_goals with_reducible rfl
    simp only [Act.put, List.setIfInBounds_toArray, List.set_cons_zero, List.set_cons_succ]
    refine ord_skip (w' := w4.setCell ⟨p, 3, none⟩ (.slice (some ⟨k', 0, none⟩) (L.length + 1) c')) (i := 10) (fuel := 0) (by simp; rfl) (by kernel_rfl) (by rfl) (by rfl) ?_ HS5.out ?_
    · go_simp
      all_goals with_reducible rfl
    refine ord_done (by kernel_rfl) ?_ _
    clear c4 f4
    obtain ⟨W4, hW4⟩ : ∃ W4, w4.setCell ⟨p, 3, none⟩ (.slice (some ⟨k', 0, none⟩) (L.length + 1) c') = W4 := ⟨_, rfl⟩
    rw [hW4] at HR4 HB4 ⊢
    clear hW4 hrun HS4 HS5
    obtain ⟨lp, x0, x1, x2, x3, x4⟩ := HR4.out.cells
    have f4 := HR4.out.1.frozen 4
    go_wp2
    go_end0
    refine ⟨rfl, some ⟨k', 0, none⟩, c', HR4.out.setU (by decide) _, ?_, HNW.out⟩
    exact ((But.of_below HB.out _).trans ((But.of_below HB3.out _).trans HB4.out)).setCell (p := ⟨p, 4, none⟩) (by simp) _
end
def ApF (w : World) (B p g d n : Nat) (a z : Int) (A : Option Addr) (R : Sst × List Rec × Nat × Int) (e : Ending) (w' : World) : Prop :=
  e = .returned (.int .i64 R.2.2.2) ∧ ∃ A' c', RlG w' B p g a z A' c' R.2.1 R.2.2.1 ∧ SlS w' g d n R.1 ∧ But (p :: g :: d :: rowOf A) w w' ∧ New7 w A A'
set_option maxRecDepth 100000 in
set_option maxHeartbeats 3200000 in
theorem append_f {B p g d n u z c : Nat} {a : Int} {A : Option Addr} {L : List Rec} {s : Sst} (q : Int) (t : List UInt8) (K : Int) (w : World) (h : RlG w B p g a z A c L u) (hs : SlS w g d n s) (ho : s.Ok n K) (hK : K ≤ 1000000000000000000) (hz : z ≤ 8192) (huz : u ≤ z) (hLu : L.length ≤ u) (ha0 : 0 ≤ a) (ha : a ≤ 1000000)
    (hB : B ≤ w.heap.size) (h0 : 0 ≤ lastB L) (hq : q ≤ 9223372036854775807) (R : Sst × List Rec × Nat × Int) (hR : apS s n a z L u q t = R) :
    Calls Try.prog 11 #[.pointer (some ⟨p, 0, none⟩), .int .i64 q, .string ⟨t.toArray⟩] w (ApF w B p g d n a z A R) := by
  have H := Lib.hid h
  have HS := Lib.hid hs
  have HO := Lib.hid ho
  have HR := Lib.hid hR
  obtain ⟨lst, hl⟩ : ∃ x, lastB L = x := ⟨_, rfl⟩
  rw [hl] at h0
  have HL := Lib.hid hl
  have HX := Lib.hid (show g ∉ p :: rowOf A ∧ d ∉ p :: rowOf A from ⟨h.far hs.1 (by decide) (by decide), h.far hs.2.1 (by decide) (by decide)⟩)
  clear h hs ho hR hl
  go_enter Try.func11, Try.ntmps11
  go_wp2_with fail
  (with_reducible refine (last_c lst H.out HL.out (by omega)).mono ?_)
  rintro e w1 ⟨rfl, hb⟩
  have H1 := Lib.hid (H.out.below hb)
  have HS1 := Lib.hid (HS.out.below hb)
  have HB1 := Lib.hid hb
  clear hb H HS
  by_cases h1 : q ≤ lst
  · have HE := Lib.hid (show R = (s, L, u, 1) by rw [← HR.out, apS_arg (.inl (by rw [HL.out]; exact h1))])
    go_wp2
    go_ret
    rw [HE.out]
    exact ⟨rfl, A, c, H1.out, HS1.out, But.of_below HB1.out _, New7.same _ _⟩
  by_cases h2 : 420 < t.length
  · have h2' : (420 : Int) < (t.length : Int) := by omega
    have HE := Lib.hid (show R = (s, L, u, 1) by rw [← HR.out, apS_arg (.inr h2)])
    go_wp2
    go_ret
    rw [HE.out]
    exact ⟨rfl, A, c, H1.out, HS1.out, But.of_below HB1.out _, New7.same _ _⟩
  have h2' : ¬ (420 : Int) < (t.length : Int) := by omega
  have HNA := Lib.hid (show ¬ (q ≤ lastB L ∨ 420 < t.length) by rw [HL.out]; omega)
  go_wp2_with fail
  (with_reducible refine (strClone_c t _ (by omega)).mono ?_)
  rintro e w2 ⟨rfl, hb⟩
  have H2 := Lib.hid (H1.out.below hb)
  have HS2 := Lib.hid (HS1.out.below hb)
  have HB2 := Lib.hid (HB1.out.trans (hb.mono HB1.out.size))
  clear hb H1 HS1 HB1
  go_upto_region 4 with fail
  obtain ⟨k7, hk7⟩ : ∃ k, w2.heap.size = k := ⟨_, rfl⟩
  obtain ⟨V, hV⟩ : ∃ V, w2.alloc (.cells #[.int .i64 q, .string ⟨t.toArray⟩] 58) = V := ⟨_, rfl⟩
  have hA : Below w2.heap.size w2 V := by rw [← hV]; exact (Below.refl _ _).alloc (Nat.le_refl _) _
  have HK := Lib.hid (show Blk V k7 58 #[.int .i64 q, .string ⟨t.toArray⟩] by rw [← hV, ← hk7]; exact Blk.new _ _ _)
  have HKX := Lib.hid (show k7 ∉ [g, d] by have := HS2.out.lt; simp; omega)
  have HV := Lib.hid (H2.out.below hA)
  have HSV := Lib.hid (HS2.out.below hA)
  have HBV := Lib.hid (HB2.out.trans (hA.mono HB2.out.size))
  rw [hV, hk7]
  clear hV hk7 hA H2 HS2 HB2
  obtain ⟨nb, hnb⟩ : ∃ nb, (frameB u ⟨q, t⟩).length = nb := ⟨_, rfl⟩
  have HNB := Lib.hid hnb
  have hnb2 : nb ≤ 1000 := by have := (frameB_len' u ⟨q, t⟩).2; rw [hnb] at this; simp only at this; omega
  clear hnb
  go_cut [8] (fun v wx => ∃ gb cb, v = .slice (some ⟨gb, 0, none⟩) nb cb ∧ Bs wx wx.heap.size (some ⟨gb, 0, none⟩) nb cb (frameB u ⟨q, t⟩) ∧ Below V.heap.size V wx)
  case first =>
    as_aux_lemma =>
    have HBd := Lib.hid (show Below V.heap.size V V.drew from (Below.refl _ _).drew)
    refine wp_region_ord (S := fun W => Below V.heap.size V W) (by kernel_rfl) ?_
    refine ord_take (v := ?_) (i := 0) (fuel := 6) (by simp; rfl) (by kernel_rfl) (by kernel_rfl) (by kernel_rfl) (Or.inl ⟨by rfl, fun w' hSw => ?_⟩) HBd.out ?_
    rotate_left
    · dsimp only at hSw
      obtain ⟨lk, y0, y1⟩ := blk2 (HK.out.below hSw HK.out.lt)
      go_simp
      all_goals with_reducible rfl
    simp only [Act.put, List.setIfInBounds_toArray, List.set_cons_zero, List.set_cons_succ]
    refine ord_take (v := ?_) (i := 1) (fuel := 5) (by simp; rfl) (by kernel_rfl) (by kernel_rfl) (by kernel_rfl) (Or.inl ⟨by rfl, fun w' hSw => ?_⟩) HBd.out ?_
    rotate_left
    · go_simp
      all_goals with_reducible rfl
    simp only [Act.put, List.setIfInBounds_toArray, List.set_cons_zero, List.set_cons_succ]
    refine ord_take (v := ?_) (i := 2) (fuel := 4) (by simp; rfl) (by kernel_rfl) (by kernel_rfl) (by kernel_rfl) (Or.inl ⟨by rfl, fun w' hSw => ?_⟩) HBd.out ?_
    rotate_left
    · go_simp
      all_goals with_reducible rfl
    simp only [Act.put, List.setIfInBounds_toArray, List.set_cons_zero, List.set_cons_succ]
    refine ord_take (v := ?_) (i := 3) (fuel := 3) (by simp; rfl) (by kernel_rfl) (by kernel_rfl) (by kernel_rfl) (Or.inl ⟨by rfl, fun w' hSw => ?_⟩) HBd.out ?_
    rotate_left
    · go_simp
      all_goals with_reducible rfl
    simp only [Act.put, List.setIfInBounds_toArray, List.set_cons_zero, List.set_cons_succ]
    refine ord_take (v := ?_) (i := 4) (fuel := 2) (by simp; rfl) (by kernel_rfl) (by kernel_rfl) (by kernel_rfl) (Or.inl ⟨by rfl, fun w' hSw => ?_⟩) HBd.out ?_
    rotate_left
    · dsimp only at hSw
      obtain ⟨lp, x0, x1, x2, x3, x4⟩ := (HV.out.below hSw).cells
      go_simp
      all_goals with_reducible rfl
    simp only [Act.put, List.setIfInBounds_toArray, List.set_cons_zero, List.set_cons_succ]
    refine ord_call (f := 34) (args := #[.agg #[.int .i64 q, .string ⟨t.toArray⟩], .int .i64 (u : Int)]) (w1 := V.drew) (i := 5) (fuel := 1) (by simp; rfl) (by kernel_rfl) (by rfl) ?_ ?_
    · go_simp
      all_goals with_reducible rfl
    (with_reducible refine (laid_c q t u _ (by omega) hq (by omega) (by omega)).mono ?_)
    rintro e w3 ⟨gb, nx, cb, rfl, hO, hb⟩
    obtain rfl : nx = nb := by rw [← hO.len, HNB.out]
    have HB3 := Lib.hid (HBd.out.trans (hb.mono HBd.out.size))
    have HO3 := Lib.hid hO
    clear hO hb
    refine ⟨_, rfl, HB3.out, ?_⟩
    simp only [Act.put, List.setIfInBounds_toArray, List.set_cons_zero, List.set_cons_succ]
    refine ord_take (v := ?_) (i := 6) (fuel := 0) (by simp; rfl) (by kernel_rfl) (by kernel_rfl) (by kernel_rfl) (Or.inl ⟨by rfl, fun w' hSw => ?_⟩) HB3.out ?_
    rotate_left
    · go_simp
      all_goals with_reducible rfl
    simp only [Act.put, List.setIfInBounds_toArray, List.set_cons_zero, List.set_cons_succ]
    refine ord_done (by kernel_rfl) ?_ _
    go_wp2_with fail
    go_meet
    case rel => exact ⟨gb, cb, rfl, HO3.out.bs, HB3.out⟩
  case rest =>
    as_aux_lemma =>
    obtain ⟨gb, cb, rfl, hbs, hb⟩ := hcut
    obtain ⟨W, rfl⟩ : ∃ W : World, W = wc := ⟨_, rfl⟩
    have HBs := Lib.hid hbs
    have HW := Lib.hid (HV.out.below hb)
    have HSW := Lib.hid (HSV.out.below hb)
    have HKW := Lib.hid (HK.out.below hb HK.out.lt)
    have HBW := Lib.hid (HBV.out.trans (hb.mono HBV.out.size))
    clear hbs hb HV HSV HK HBV
    obtain ⟨lf, hlf⟩ : ∃ x : Int, (z : Int) - (u : Int) = x := ⟨_, rfl⟩
    have HLF := Lib.hid hlf
    go_wp2_with fail
    (with_reducible refine (left_c lf HW.out HLF.out (by omega) (by omega) (by omega)).mono ?_)
    rintro e w4 ⟨rfl, hb⟩
    have H4 := Lib.hid (HW.out.below hb)
    have HS4 := Lib.hid (HSW.out.below hb)
    have HK4 := Lib.hid (HKW.out.below hb HKW.out.lt)
    have HBs4 := Lib.hid ((HBs.out.below hb).more hb.size)
    have HB4 := Lib.hid (HBW.out.trans (hb.mono HBW.out.size))
    clear hb HW HSW HKW HBs HBW
    by_cases h3 : z < u + nb
    · have h3' : lf < (nb : Int) := by omega
      have HE := Lib.hid (show R = (s, L, u, 5) by rw [← HR.out, apS_full HNA.out (by rw [HNB.out]; exact h3)])
      clear hlf
      go_wp2
      go_ret
      rw [HE.out]
      exact ⟨rfl, A, c, H4.out, HS4.out, But.of_below HB4.out _, New7.same _ _⟩
    have h3' : ¬ lf < (nb : Int) := by omega
    clear hlf
    obtain ⟨s', β, hw⟩ : ∃ s' β, wrS s n (a + (u : Int)) (frameB u ⟨q, t⟩) = (s', β) := ⟨_, _, rfl⟩
    have HW := Lib.hid hw
    have HE := Lib.hid (show R = if β = true then (s', L ++ [⟨q, t⟩], u + nb, 0) else (s', L, u, 6) by rw [← HR.out, ← HNB.out, apS_on HNA.out (by rw [HNB.out]; exact h3) hw])
    clear hw
    have hwr : IntKind.i64.wrap (a + (u : Int)) = a + (u : Int) := by rw [IntKind.wrap_i64]; omega
    have HA9 := Lib.hid (show a + (u : Int) ≤ 9223372036854775807 by omega)
    go_upto_region 7 with fail
    go_cut [52] (fun v wx => v = .bool (!β) ∧ SlS wx g d n s' ∧ But [g, d] w4 wx)
    case first =>
      as_aux_lemma =>
      refine wp_region_ord (S := fun W => RlG W B p g a z A c L u) (by kernel_rfl) ?_
      refine ord_take (v := ?_) (i := 0) (fuel := 15) (by simp; rfl) (by kernel_rfl) (by kernel_rfl) (by kernel_rfl) (Or.inl ⟨by rfl, fun w' hSw => ?_⟩) H4.out.drew ?_
      rotate_left
      · go_simp
        all_goals with_reducible rfl
      simp only [Act.put, List.setIfInBounds_toArray, List.set_cons_zero, List.set_cons_succ]
      refine ord_take (v := ?_) (i := 1) (fuel := 14) (by simp; rfl) (by kernel_rfl) (by kernel_rfl) (by kernel_rfl) (Or.inl ⟨by rfl, fun w' hSw => ?_⟩) H4.out.drew ?_
      rotate_left
      · go_simp
        all_goals with_reducible rfl
      simp only [Act.put, List.setIfInBounds_toArray, List.set_cons_zero, List.set_cons_succ]
      refine ord_take (v := ?_) (i := 2) (fuel := 13) (by simp; rfl) (by kernel_rfl) (by kernel_rfl) (by kernel_rfl) (Or.inl ⟨by rfl, fun w' hSw => ?_⟩) H4.out.drew ?_
      rotate_left
      · go_simp
        all_goals with_reducible rfl
      simp only [Act.put, List.setIfInBounds_toArray, List.set_cons_zero, List.set_cons_succ]
      refine ord_take (v := ?_) (i := 3) (fuel := 12) (by simp; rfl) (by kernel_rfl) (by kernel_rfl) (by kernel_rfl) (Or.inl ⟨by rfl, fun w' hSw => ?_⟩) H4.out.drew ?_
      rotate_left
      · dsimp only at hSw
        obtain ⟨lp, x0, x1, x2, x3, x4⟩ := hSw.cells
        go_simp
        all_goals with_reducible rfl
      simp only [Act.put, List.setIfInBounds_toArray, List.set_cons_zero, List.set_cons_succ]
      refine ord_take (v := ?_) (i := 4) (fuel := 11) (by simp; rfl) (by kernel_rfl) (by kernel_rfl) (by kernel_rfl) (Or.inl ⟨by rfl, fun w' hSw => ?_⟩) H4.out.drew ?_
      rotate_left
      · go_simp
        all_goals with_reducible rfl
      simp only [Act.put, List.setIfInBounds_toArray, List.set_cons_zero, List.set_cons_succ]
      refine ord_take (v := ?_) (i := 5) (fuel := 10) (by simp; rfl) (by kernel_rfl) (by kernel_rfl) (by kernel_rfl) (Or.inl ⟨by rfl, fun w' hSw => ?_⟩) H4.out.drew ?_
      rotate_left
      · go_simp
        all_goals with_reducible rfl
      simp only [Act.put, List.setIfInBounds_toArray, List.set_cons_zero, List.set_cons_succ]
      refine ord_take (v := ?_) (i := 6) (fuel := 9) (by simp; rfl) (by kernel_rfl) (by kernel_rfl) (by kernel_rfl) (Or.inl ⟨by rfl, fun w' hSw => ?_⟩) H4.out.drew ?_
      rotate_left
      · go_simp
        all_goals with_reducible rfl
      simp only [Act.put, List.setIfInBounds_toArray, List.set_cons_zero, List.set_cons_succ]
      refine ord_take (v := ?_) (i := 7) (fuel := 8) (by simp; rfl) (by kernel_rfl) (by kernel_rfl) (by kernel_rfl) (Or.inl ⟨by rfl, fun w' hSw => ?_⟩) H4.out.drew ?_
      rotate_left
      · dsimp only at hSw
        obtain ⟨lp, x0, x1, x2, x3, x4⟩ := hSw.cells
        go_simp
        all_goals with_reducible rfl
      simp only [Act.put, List.setIfInBounds_toArray, List.set_cons_zero, List.set_cons_succ]
      refine ord_take (v := ?_) (i := 8) (fuel := 7) (by simp; rfl) (by kernel_rfl) (by kernel_rfl) (by kernel_rfl) (Or.inl ⟨by rfl, fun w' hSw => ?_⟩) H4.out.drew ?_
      rotate_left
      · go_simp
        all_goals with_reducible rfl
      simp only [Act.put, List.setIfInBounds_toArray, List.set_cons_zero, List.set_cons_succ]
      refine ord_take (v := ?_) (i := 9) (fuel := 6) (by simp; rfl) (by kernel_rfl) (by kernel_rfl) (by kernel_rfl) (Or.inl ⟨by rfl, fun w' hSw => ?_⟩) H4.out.drew ?_
      rotate_left
      · go_simp
        all_goals with_reducible rfl
      simp only [Act.put, List.setIfInBounds_toArray, List.set_cons_zero, List.set_cons_succ]
      refine ord_take (v := ?_) (i := 10) (fuel := 5) (by simp; rfl) (by kernel_rfl) (by kernel_rfl) (by kernel_rfl) (Or.inl ⟨by rfl, fun w' hSw => ?_⟩) H4.out.drew ?_
      rotate_left
      · go_simp
        all_goals with_reducible rfl
      simp only [Act.put, List.setIfInBounds_toArray, List.set_cons_zero, List.set_cons_succ]
      refine ord_take (v := ?_) (i := 11) (fuel := 4) (by simp; rfl) (by kernel_rfl) (by kernel_rfl) (by kernel_rfl) (Or.inl ⟨by rfl, fun w' hSw => ?_⟩) H4.out.drew ?_
      rotate_left
      · dsimp only at hSw
        obtain ⟨lp, x0, x1, x2, x3, x4⟩ := hSw.cells
        go_simp
        all_goals with_reducible rfl
      simp only [Act.put, List.setIfInBounds_toArray, List.set_cons_zero, List.set_cons_succ]
      refine ord_take (v := ?_) (i := 12) (fuel := 3) (by simp; rfl) (by kernel_rfl) (by kernel_rfl) (by kernel_rfl) (Or.inl ⟨by rfl, fun w' hSw => ?_⟩) H4.out.drew ?_
      rotate_left
      · go_simp
        all_goals with_reducible rfl
      simp only [Act.put, List.setIfInBounds_toArray, List.set_cons_zero, List.set_cons_succ]
      refine ord_take (v := ?_) (i := 13) (fuel := 2) (by simp; rfl) (by kernel_rfl) (by kernel_rfl) (by kernel_rfl) (Or.inl ⟨by rfl, fun w' hSw => ?_⟩) H4.out.drew ?_
      rotate_left
      · go_simp
        all_goals with_reducible rfl
      simp only [Act.put, List.setIfInBounds_toArray, List.set_cons_zero, List.set_cons_succ]
      clear hwr
      have HS4d := Lib.hid (show SlS w4.drew g d n s from HS4.out)
      have HBs4d := Lib.hid (show Bs w4.drew w4.drew.heap.size (some ⟨gb, 0, none⟩) nb cb (frameB u ⟨q, t⟩) from HBs4.out)
      refine ord_call (f := 20) (args := #[.pointer (some ⟨g, 0, none⟩), .int .i64 (a + (u : Int)), .slice (some ⟨gb, 0, none⟩) nb cb]) (w1 := w4.drew) (i := 14) (fuel := 1) (by simp; rfl) (by kernel_rfl) (by rfl) ?_ ?_
      · go_simp
        all_goals with_reducible rfl
      (with_reducible refine (write_w (a + (u : Int)) _ nb cb _ K HW.out HS4d.out HBs4d.out HO.out (by omega) HA9.out).mono ?_)
      rintro e w5 ⟨rfl, hs2, hb2⟩
      have HS5 := Lib.hid hs2
      have HB5 := Lib.hid (((But.refl [g, d] w4).drew).trans hb2)
      have H5 := Lib.hid (H4.out.slab HX.out.1 HX.out.2 HB5.out)
      clear hs2 hb2
      refine ⟨_, rfl, H5.out, ?_⟩
      simp only [Act.put, List.setIfInBounds_toArray, List.set_cons_zero, List.set_cons_succ]
      refine ord_take (v := ?_) (i := 15) (fuel := 0) (by simp; rfl) (by kernel_rfl) (by kernel_rfl) (by kernel_rfl) (Or.inl ⟨by rfl, fun w' hSw => ?_⟩) H5.out ?_
      rotate_left
      · go_simp
        all_goals with_reducible rfl
      simp only [Act.put, List.setIfInBounds_toArray, List.set_cons_zero, List.set_cons_succ]
      refine ord_done (by kernel_rfl) ?_ _
      go_wp2_with fail
      go_meet
      case rel => exact ⟨rfl, HS5.out, HB5.out⟩
    case rest =>
      as_aux_lemma =>
      obtain ⟨rfl, hs2, hb2⟩ := hcut
      obtain ⟨w5, rfl⟩ : ∃ W : World, W = wc := ⟨_, rfl⟩
      have HS5 := Lib.hid hs2
      have H5 := Lib.hid (H4.out.slab HX.out.1 HX.out.2 hb2)
      have HK5 := Lib.hid (HK4.out.but hb2 HKX.out)
      have HB5 := Lib.hid ((But.of_below HB4.out [g, d]).trans hb2)
      clear hs2 hb2 hwr HK4 H4 HS4 HBs4
      cases β with
      | false =>
        go_wp2
        go_ret
        rw [HE.out]
        exact ⟨rfl, A, c, H5.out, HS5.out, HB5.out.more (by intro k hk; simp only [List.mem_cons, List.not_mem_nil, or_false] at hk ⊢; rcases hk with rfl | rfl; exact .inr (.inl rfl); exact .inr (.inr (.inl rfl))), New7.same _ _⟩
      | true =>
        obtain ⟨lk, y0, y1⟩ := blk2 HK5.out
        have hB5 : B ≤ w5.heap.size := by have := HB5.out.size; omega
        go_wp2_with fail
        (with_reducible refine (add_f q t nb H5.out (by omega) hB5 (by omega) (by omega)).mono ?_)
        rintro e w6 ⟨rfl, A2, c2, hr, hb, hnw⟩
        have HNW := Lib.hid (hnw.less (w := w) HB5.out.size)
        have H6 := Lib.hid hr
        have HS6 := Lib.hid (HS5.out.but hb HX.out.1 HX.out.2)
        have HB6 := Lib.hid ((HB5.out.more (ex' := p :: g :: d :: rowOf A) (by intro k hk; simp only [List.mem_cons, List.not_mem_nil, or_false] at hk ⊢; rcases hk with rfl | rfl; exact .inr (.inl rfl); exact .inr (.inr (.inl rfl)))).trans (hb.more (by intro k hk; simp only [List.mem_cons] at hk ⊢; rcases hk with rfl | hk; exact .inl rfl; exact .inr (.inr (.inr hk)))))
        clear hr hb hnw
        go_wp2
        go_ret
        rw [HE.out]
        exact ⟨rfl, A2, c2, H6.out, HS6.out, HB6.out, HNW.out⟩
/-- Records in a row of our own. -/
def Recs7 (w : World) (B : Nat) (v : Value) (L : List Rec) : Prop := w.ownsRow B 58 2 v L.length (recsV L)
def RcO (w : World) (L : List Rec) (e : Ending) (w' : World) : Prop := ∃ v, e = .returned v ∧ Recs7 w' w.heap.size v L ∧ Below w.heap.size w w'
set_option maxRecDepth 100000 in
set_option maxHeartbeats 800000 in
theorem recClone_o (A : Option Addr) (n c : Nat) (L : List Rec) (w : World) (hn : L.length = n) (h : Rcs w A L) (hA : A = none → n = 0 ∧ c = 0) (hA2 : ∀ a, A = some a → a.off = 0 ∧ a.spot = none) (hm : n ≤ 1000000) :
    Calls Try.prog 36 #[.slice A n c] w (RcO w L) := by
  obtain ⟨i0, hi, hz0, hz1, hz2⟩ := info_parts Try.recI
  have q : ∀ (w : World) (a : Option Addr) (n c n' c' : Nat), (binOp .eql 32 (.slice a n c) (.slice none n' c')).run Try.prog w = .ok (.bool a.isNone) w := fun w a n c n' c' => Lib.run_eql_slice_nil w _ _ a n c n' c' Try.recs
  subst hn
  cases A with
  | none =>
    obtain ⟨h0, rfl⟩ := hA rfl
    have HL := Lib.hid (show L = [] from List.eq_nil_of_length_eq_zero h0)
    rw [h0]
    go_enter Try.func36, Try.ntmps36
    go_wp2
    go_ret
    refine ⟨.slice none 0 0, rfl, ?_, Below.refl _ _⟩
    rw [HL.out]
    exact World.ownsRow_nil _ _ _ _
  | some ad =>
    obtain ⟨k, o, sp⟩ := ad
    obtain ⟨e1, e2⟩ := hA2 _ rfl
    simp only at e1 e2
    subst e1 e2
    have H := Lib.hid h
    obtain ⟨n, hn⟩ : ∃ n, L.length = n := ⟨_, rfl⟩
    have HN := Lib.hid hn
    rw [hn] at hm ⊢
    clear h hA hA2 hn
    have HZ := Lib.hid (show (w.alloc (.cells #[] 58)).ownsRow w.heap.size 58 2 (.slice (some ⟨w.heap.size, 0, none⟩) 0 0) 0 [] from World.ownsRow_made w #[] 0 (Nat.le_refl _) (by unfold maxLen; omega) rfl)
    have HW := Lib.hid (show ∀ j u, (recsV L)[j]? = some u → (w.alloc (.cells #[] 58)).cell? ((⟨k, 0, none⟩ : Addr).add j) = some u by
      intro j u hu
      have hb : Below w.heap.size w (w.alloc (.cells #[] 58)) := (Below.refl _ _).alloc (Nat.le_refl _) _
      have hj := (List.getElem?_eq_some_iff.1 hu).1
      rw [recsV_len] at hj
      obtain ⟨k', e, _, h1, h2⟩ := (H.out.below hb) (j / 2) (by omega)
      cases e
      obtain ⟨r1, r2⟩ := recsV_at L (j / 2) (by omega)
      rw [Addr.add_lit, Nat.zero_add]
      rcases (show j = j / 2 * 2 ∨ j = j / 2 * 2 + 1 by omega) with e | e
      · rw [← e] at h1 r1
        rw [h1, ← hu, r1]
      · rw [← e] at h2 r2
        rw [h2, ← hu, r2])
    go_enter Try.func36, Try.ntmps36
    go_wp2_with (at_builtin; refine wpList_append_own _ rfl (.tmp 5) (.tmp 6) _ rfl w.heap.size 58 i0 (.agg #[.int .i64 0, .string ⟨#[]⟩]) 2 24 Try.recs hi hz0 hz1 hz2 rfl (by decide) (.slice (some ⟨w.heap.size, 0, none⟩) 0 0) 0 [] rfl HZ.out ⟨k, 0, none⟩ n c (recsV L) rfl (by rw [recsV_len, HN.out]) HW.out (recsV_ones _) (by unfold maxLen; omega) (by omega) (by simp) ?_; intro v1 w1 hown hgrow hnil)
    go_ret
    have hB : Below w.heap.size w w1 := ((Below.refl _ _).alloc (Nat.le_refl _) _).grown hgrow (by simp) (fun k hk => by cases hk; exact Nat.le_refl _)
    rw [Nat.zero_add, List.nil_append] at hown
    exact ⟨v1, rfl, by unfold Recs7; rw [HN.out]; exact hown, hB⟩
section
variable {w : World} {B p g c u : Nat} {a z : Int} {A : Option Addr} {L : List Rec}
set_option maxRecDepth 100000 in
set_option maxHeartbeats 800000 in
theorem records_o (n : Nat) (h : RlG w B p g a z A c L u) (hn : L.length = n) (hm : n ≤ 1000000) : Calls Try.prog 13 #[.pointer (some ⟨p, 0, none⟩)] w (RcO w L) := by
  subst hn
  obtain ⟨lp, x0, x1, x2, x3, x4⟩ := h.cells
  have HR := Lib.hid h.rcs
  have HN := Lib.hid h.nil_row
  clear h
  go_enter Try.func13, Try.ntmps13
  go_wp2_with fail
  (with_reducible refine (recClone_o A L.length c L _ rfl HR.out HN.out.1 HN.out.2 hm).mono ?_)
  rintro e w1 ⟨v, rfl, hr, hb⟩
  go_wp2
  go_ret
  exact ⟨v, rfl, hr, hb⟩
end
end Go.Proofs.Ytkjckdndkljeeaa

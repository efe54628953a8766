/- Package roll: blank, find. -/
import Derived.Test.YtkjckdndkljeeaaRollE
namespace Go.Proofs.Ytkjckdndkljeeaa
open Go.RowKit
theorem blank_upto {l : List UInt8} {k : Nat} (h : k < l.length) (hk : blankB (l.take k) = true) : blankB (l.take (k + 1)) = decide (l[k].toNat = 0) := by
  unfold blankB at *
  rw [List.take_succ_eq_append_getElem h, List.all_append, hk]
  simp only [Bool.true_and, List.all_cons, List.all_nil, Bool.and_true]
  rw [Bool.eq_iff_iff]
  simp [← UInt8.toNat_inj]
theorem blank_not {l : List UInt8} {k : Nat} (h : blankB (l.take k) = false) : blankB l = false := by
  unfold blankB at *
  rw [← List.take_append_drop k l, List.all_append, h]
  rfl
set_option maxRecDepth 100000 in
set_option maxHeartbeats 800000 in
theorem blank_c (A : Option Addr) (n c : Nat) (l : List UInt8) (β : Bool) (w : World) (h : Bs w w.heap.size A n c l) (hβ : blankB l = β) (hn : n ≤ 281474976710656) :
    Calls Try.prog 44 #[.slice A n c] w fun e w' => e = .returned (.bool β) ∧ w = w' := by
  have HL := Lib.hid h
  have HB := Lib.hid hβ
  clear h hβ
  go_enter Try.func44, Try.ntmps44
  go_wp2
  go_loop [7] (fun i => ∃ k : Nat, k ≤ n ∧ i = .int .i64 k ∧ blankB (l.take k) = true) (fun i => n - (intOf i).toNat)
  case atStart => exact ⟨0, by omega, rfl, rfl⟩
  case round =>
    obtain ⟨k, hk, rfl, hb⟩ := hrel
    have HK := Lib.hid hb
    clear hb
    by_cases hlt : k < n
    · obtain ⟨g, o, hl, rfl, _, c0⟩ := HL.out.at_ hlt
      have HE := Lib.hid (blank_upto hl HK.out)
      obtain ⟨x, hx⟩ : ∃ x : Nat, l[k].toNat = x := ⟨_, rfl⟩
      have hx2 := u8_lt l[k]
      rw [hx] at c0 hx2 HE
      have hlt' : (k : Int) < (n : Int) := by omega
      clear hx
      by_cases hx0 : x = 0
      · subst hx0
        go_wp2
        go_round
        case rel => exact ⟨k + 1, by omega, by go_num, by rw [HE.out]; rfl⟩
        case measure => simp [intOf]; omega
      · have hx1 : ((x : Int) == 0) = false := by simp; omega
        have hx2 : ((x : Int) != 0) = true := by simp; omega
        obtain rfl : β = false := by rw [← HB.out]; exact blank_not (k := k + 1) (by rw [HE.out]; simpa using hx0)
        go_wp2
        go_ret
        exact ⟨rfl, rfl⟩
    · have hlt' : ¬ (k : Int) < (n : Int) := by omega
      obtain rfl : β = true := by rw [← HB.out, ← HK.out, List.take_of_length_le (by rw [HL.out.len]; omega)]
      go_wp2
      go_ret
      exact ⟨rfl, rfl⟩
theorem wh_parts (R : Option (Rec × Nat)) : ∃ (q : Int) (t : List UInt8) (m : Nat) (β : Bool), whV R = .tuple #[.agg #[.int .i64 q, .string ⟨t.toArray⟩], .int .i64 m, .bool β] ∧ (β = false → R = none) ∧ (β = true → R = some (⟨q, t⟩, m)) := by
  match R with
  | none => exact ⟨0, [], 0, false, rfl, fun _ => rfl, fun h => by cases h⟩
  | some (r, n) => exact ⟨r.seq, r.body, n, true, rfl, (fun h => by cases h), fun _ => rfl⟩
theorem findF_done {f u : Nat} {l : List UInt8} {last : Int} (hw : wholeB (l.drop u) u last = none) : findF f l u last = ([], u) := by
  cases f with
  | zero => rfl
  | succ f => simp only [findF, hw]
theorem findF_more {f u n m : Nat} {l : List UInt8} {last : Int} {r : Rec} (hn : l.length = n) (hf : n ≤ f + u) (hw : wholeB (l.drop u) u last = some (r, m)) :
    ∃ f', n ≤ f' + (u + m) ∧ f = f' + 1 ∧ u + m ≤ n ∧ 20 ≤ m ∧ findF f l u last = (r :: (findF f' l (u + m) r.seq).1, (findF f' l (u + m) r.seq).2) := by
  have hs := wholeB_size hw
  rw [List.length_drop] at hs
  cases f with
  | zero => omega
  | succ f => exact ⟨f, by omega, rfl, by omega, by omega, by simp only [findF, hw]⟩
def uAt (w : World) (p : Nat) : Nat := match w.cell? ⟨p, 4, none⟩ with
  | some v => (intOf v).toNat
  | none => 0
theorem uAt_rl {T E : TypeId} {w : World} {B p g c u : Nat} {a z : Int} {A : Option Addr} {L : List Rec} (h : Rl T E w B p g a z A c L u) : uAt w p = u := by
  unfold uAt
  rw [h.cells.2.2.2.2.2]
  simp [intOf]
/-- Records found so far. -/
def FindRel (w : World) (p g : Nat) (a z : Int) (l : List UInt8) (n : Nat) (wr : World) : Prop :=
  ∃ (A' : Option Addr) (c' : Nat) (L : List Rec) (u f : Nat), RlG wr w.heap.size p g a z A' c' L u ∧ n ≤ f + u ∧ u ≤ n ∧ L.length ≤ u ∧ findB l = (L ++ (findF f l u (lastB L)).1, (findF f l u (lastB L)).2) ∧ But [p] w wr
def FdE (w : World) (p g : Nat) (a z : Int) (l : List UInt8) (e : Ending) (w' : World) : Prop :=
  e = .returned (.tuple #[]) ∧ ∃ A' c', RlG w' w.heap.size p g a z A' c' (findB l).1 (findB l).2 ∧ But [p] w w'
set_option maxRecDepth 100000 in
set_option maxHeartbeats 3200000 in
theorem find_c {p g : Nat} {a z : Int} (A : Option Addr) (n c : Nat) (l : List UInt8) (w : World) (h : RlG w w.heap.size p g a z none 0 [] 0) (hl : Bs w w.heap.size A n c l) (hn : n ≤ 8192) (hp : ∀ ad, A = some ad → ad.block ≠ p) :
    Calls Try.prog 30 #[.pointer (some ⟨p, 0, none⟩), .slice A n c] w (FdE w p g a z l) := by
  have H := Lib.hid h
  have HL := Lib.hid hl
  have hlen := hl.len
  clear h hl
  go_enter Try.func30, Try.ntmps30
  go_wp2
  go_loopw [5] (fun _ wr => FindRel w p g a z l n wr) (fun _ wr => n - uAt wr p)
  case atStart => exact ⟨none, 0, [], 0, l.length, H.out, by omega, by omega, by simp, by simp [findB, lastB], But.refl _ _⟩
  case round =>
    obtain ⟨A', c', L, u, f, hr, hf, hu, hLu, hF, hb⟩ := hrel
    obtain ⟨R, hR⟩ : ∃ R, wholeB (l.drop u) u (lastB L) = R := ⟨_, rfl⟩
    obtain ⟨lst, hlst⟩ : ∃ x, lastB L = x := ⟨_, rfl⟩
    obtain ⟨q, t, m, β, hV, hβ0, hβ1⟩ := wh_parts R
    have HR := Lib.hid hr
    have HRW := Lib.hid hR
    have HF := Lib.hid hF
    have HB := Lib.hid hb
    have HV := Lib.hid hV
    have HW := Lib.hid (fun k hk => (hr.lt.2 k hk).2)
    have HLS := Lib.hid hlst
    have HL1 := Lib.hid (show Bs wr wr.heap.size A n c l by
      refine ⟨HL.out.1, HL.out.2.1, HL.out.2.2.1, fun h0 => ?_⟩
      obtain ⟨g0, o0, e, hg0, hc⟩ := HL.out.2.2.2 h0
      refine ⟨g0, o0, e, Nat.lt_of_lt_of_le hg0 hb.size, fun j hj => cel_but (hc j hj) hb ?_⟩
      have := hp _ e
      simpa using this)
    have HC := Lib.hid (HL1.out.cut (k := u) hu)
    clear hr hR hF hb hV hlst
    rw [HLS.out] at HRW
    go_upto_region 0 with fail
    obtain ⟨Ax, hAx⟩ : ∃ Ax, (if c = u then A else Option.map (fun x => x.add u) A) = Ax := ⟨_, rfl⟩
    rw [hAx] at HC
    go_cut [4, 5, 6] (fun t4 t5 t6 wx => ∃ k, t4 = .pointer (some ⟨k, 0, none⟩) ∧ t5 = .int .i64 m ∧ t6 = .bool β ∧ Blk wx k 58 #[.int .i64 q, .string ⟨t.toArray⟩] ∧ Below wr.heap.size wr wx)
    case first =>
      as_aux_lemma =>
      have i1 : (0 : Int) ≤ (u : Int) := by omega
      have i2 : (u : Int) ≤ (n : Int) := by omega
      have HBd := Lib.hid (show Below wr.heap.size wr wr.drew from (Below.refl _ _).drew)
      refine wp_region_ord (S := fun V => Below wr.heap.size wr V) (by kernel_rfl) ?_
      refine ord_take (v := ?_) (i := 0) (fuel := 20) (by simp; rfl) (by kernel_rfl) (by kernel_rfl) (by kernel_rfl) (Or.inl ⟨by rfl, fun w' hSw => ?_⟩) HBd.out ?_
      rotate_left
      · go_simp
        all_goals with_reducible rfl
      simp only [Act.put, List.setIfInBounds_toArray, List.set_cons_zero, List.set_cons_succ]
      refine ord_take (v := ?_) (i := 1) (fuel := 19) (by simp; rfl) (by kernel_rfl) (by kernel_rfl) (by kernel_rfl) (Or.inl ⟨by rfl, fun w' hSw => ?_⟩) HBd.out ?_
      rotate_left
      · go_simp
        all_goals with_reducible rfl
      simp only [Act.put, List.setIfInBounds_toArray, List.set_cons_zero, List.set_cons_succ]
      refine ord_take (v := ?_) (i := 2) (fuel := 18) (by simp; rfl) (by kernel_rfl) (by kernel_rfl) (by kernel_rfl) (Or.inl ⟨by rfl, fun w' hSw => ?_⟩) HBd.out ?_
      rotate_left
      · go_simp
        all_goals with_reducible rfl
      simp only [Act.put, List.setIfInBounds_toArray, List.set_cons_zero, List.set_cons_succ]
      refine ord_take (v := ?_) (i := 3) (fuel := 17) (by simp; rfl) (by kernel_rfl) (by kernel_rfl) (by kernel_rfl) (Or.inl ⟨by rfl, fun w' hSw => ?_⟩) HBd.out ?_
      rotate_left
      · go_simp
        all_goals with_reducible rfl
      simp only [Act.put, List.setIfInBounds_toArray, List.set_cons_zero, List.set_cons_succ]
      refine ord_take (v := ?_) (i := 4) (fuel := 16) (by simp; rfl) (by kernel_rfl) (by kernel_rfl) (by kernel_rfl) (Or.inl ⟨by rfl, fun w' hSw => ?_⟩) HBd.out ?_
      rotate_left
      · dsimp only at hSw
        obtain ⟨lp, x0, x1, x2, x3, x4⟩ := (HR.out.below hSw).cells
        go_simp
        all_goals with_reducible rfl
      simp only [Act.put, List.setIfInBounds_toArray, List.set_cons_zero, List.set_cons_succ]
      refine ord_take (v := ?_) (i := 5) (fuel := 15) (by simp; rfl) (by kernel_rfl) (by kernel_rfl) (by kernel_rfl) (Or.inl ⟨by rfl, fun w' hSw => ?_⟩) HBd.out ?_
      rotate_left
      · go_simp
        all_goals with_reducible rfl
      simp only [Act.put, List.setIfInBounds_toArray, List.set_cons_zero, List.set_cons_succ]
      refine ord_take (v := ?_) (i := 6) (fuel := 14) (by simp; rfl) (by kernel_rfl) (by kernel_rfl) (by kernel_rfl) (Or.inl ⟨by rfl, fun w' hSw => ?_⟩) HBd.out ?_
      rotate_left
      · go_simp
        all_goals with_reducible rfl
      simp only [Act.put, List.setIfInBounds_toArray, List.set_cons_zero, List.set_cons_succ]
      refine ord_take (v := ?_) (i := 7) (fuel := 13) (by simp; rfl) (by kernel_rfl) (by kernel_rfl) (by kernel_rfl) (Or.inl ⟨by rfl, fun w' hSw => ?_⟩) HBd.out ?_
      rotate_left
      · go_simp
        all_goals with_reducible rfl
      simp only [Act.put, List.setIfInBounds_toArray, List.set_cons_zero, List.set_cons_succ]
      refine ord_take (v := ?_) (i := 8) (fuel := 12) (by simp; rfl) (by kernel_rfl) (by kernel_rfl) (by kernel_rfl) (Or.inl ⟨by rfl, fun w' hSw => ?_⟩) HBd.out ?_
      rotate_left
      · go_simp
        all_goals with_reducible rfl
      simp only [Act.put, List.setIfInBounds_toArray, List.set_cons_zero, List.set_cons_succ]
      refine ord_take (v := ?_) (i := 9) (fuel := 11) (by simp; rfl) (by kernel_rfl) (by kernel_rfl) (by kernel_rfl) (Or.inl ⟨by rfl, fun w' hSw => ?_⟩) HBd.out ?_
      rotate_left
      · dsimp only at hSw
        obtain ⟨lp, x0, x1, x2, x3, x4⟩ := (HR.out.below hSw).cells
        go_simp
        all_goals with_reducible rfl
      simp only [Act.put, List.setIfInBounds_toArray, List.set_cons_zero, List.set_cons_succ]
      refine ord_take (v := ?_) (i := 10) (fuel := 10) (by simp; rfl) (by kernel_rfl) (by kernel_rfl) (by kernel_rfl) (Or.inl ⟨by rfl, fun w' hSw => ?_⟩) HBd.out ?_
      rotate_left
      · go_simp
        all_goals with_reducible rfl
      simp only [Act.put, List.setIfInBounds_toArray, List.set_cons_zero, List.set_cons_succ]
      refine ord_two (i := 11) (j := 17) (fuel := 9) (by kernel_rfl) ?_ ?_
      · as_aux_lemma =>
        refine ordI_call (f := 32) (args := #[.pointer (some ⟨p, 0, none⟩)]) (w1 := wr.drew) (by simp; rfl) (by rfl) ?_ ?_
        · go_simp
          all_goals with_reducible rfl
        (with_reducible refine (last_c lst (HR.out.below HBd.out) HLS.out (by omega)).mono ?_)
        rintro e w1 ⟨rfl, hbx⟩
        have HB1 := Lib.hid (HBd.out.trans (hbx.mono HBd.out.size))
        refine ⟨_, rfl, HB1.out, ?_⟩
        simp only [Act.put, List.setIfInBounds_toArray, List.set_cons_zero, List.set_cons_succ]
        refine ord_two (i := 12) (j := 17) (fuel := 8) (by kernel_rfl) ?_ ?_
        · skip
          refine ordI_call (f := 43) (args := #[.slice Ax (n - u) (c - u), .int .i64 (u : Int), .int .i64 lst]) (w1 := w1) (by simp; rfl) (by rfl) ?_ ?_
          · go_simp
            all_goals with_reducible rfl
          (with_reducible refine (whole_c Ax (n - u) (c - u) (l.drop u) u lst R _ ((HC.out.below HB1.out).more HB1.out.size) HRW.out (by omega) (by omega)).mono ?_)
          rintro e w2 ⟨rfl, hbx⟩
          have HB2 := Lib.hid (HB1.out.trans (hbx.mono HB1.out.size))
          rw [HV.out]
          refine ⟨_, rfl, HB2.out, ?_⟩
          simp only [Act.put, List.setIfInBounds_toArray, List.set_cons_zero, List.set_cons_succ]
          refine ord_take (v := ?_) (i := 13) (fuel := 7) (by simp; rfl) (by kernel_rfl) (by kernel_rfl) (by kernel_rfl) (Or.inl ⟨by rfl, fun w' hSw => ?_⟩) HB2.out ?_
          rotate_left
          · go_simp
            all_goals with_reducible rfl
          simp only [Act.put, List.setIfInBounds_toArray, List.set_cons_zero, List.set_cons_succ]
          refine ord_take (v := ?_) (i := 14) (fuel := 6) (by simp; rfl) (by kernel_rfl) (by kernel_rfl) (by kernel_rfl) (Or.inl ⟨by rfl, fun w' hSw => ?_⟩) HB2.out ?_
          rotate_left
          · go_simp
            all_goals with_reducible rfl
          simp only [Act.put, List.setIfInBounds_toArray, List.set_cons_zero, List.set_cons_succ]
          refine ord_take (v := ?_) (i := 15) (fuel := 5) (by simp; rfl) (by kernel_rfl) (by kernel_rfl) (by kernel_rfl) (Or.inl ⟨by rfl, fun w' hSw => ?_⟩) HB2.out ?_
          rotate_left
          · go_simp
            all_goals with_reducible rfl
          simp only [Act.put, List.setIfInBounds_toArray, List.set_cons_zero, List.set_cons_succ]
          refine ord_take (v := ?_) (i := 16) (fuel := 4) (by simp; rfl) (by kernel_rfl) (by kernel_rfl) (by kernel_rfl) (Or.inl ⟨by rfl, fun w' hSw => ?_⟩) HB2.out ?_
          rotate_left
          · go_simp
            all_goals with_reducible rfl
          simp only [Act.put, List.setIfInBounds_toArray, List.set_cons_zero, List.set_cons_succ]
          obtain ⟨k, hk⟩ : ∃ k, w2.heap.size = k := ⟨_, rfl⟩
          obtain ⟨w3, hw3⟩ : ∃ V, w2.alloc (.cells #[.int .i64 0, .string ⟨#[]⟩] 58) = V := ⟨_, rfl⟩
          have hA := (Below.refl w2.heap.size w2).alloc (Nat.le_refl _) (.cells #[.int .i64 0, .string ⟨#[]⟩] 58)
          rw [hw3] at hA
          have HKw3 := Lib.hid (show Blk w3 k 58 #[.int .i64 0, .string ⟨#[]⟩] by rw [← hw3, ← hk]; exact Blk.new _ _ _)
          have HB3 := Lib.hid (HB2.out.trans (hA.mono HB2.out.size))
          have hkr : wr.heap.size ≤ k := by have : wr.heap.size ≤ w2.heap.size := HB2.out.size; omega
          clear hA
          refine ord_only (v := .pointer (some ⟨k, 0, none⟩)) (w' := w3) (i := 17) (fuel := 3) (by simp; rfl) (by kernel_rfl) (by rfl) ?_ HB3.out ?_
          · rw [← hw3, ← hk]
            go_simp
            all_goals with_reducible rfl
          simp only [Act.put, List.setIfInBounds_toArray, List.set_cons_zero, List.set_cons_succ]
          clear hw3
          have HK5 := Lib.hid ((HKw3.out.set_ 0 (.int .i64 q)).set_ 1 (.string ⟨t.toArray⟩))
          have HB5 := Lib.hid ((HB3.out.setCell (p := ⟨k, 0, none⟩) hkr (.int .i64 q)).setCell (p := ⟨k, 1, none⟩) hkr (.string ⟨t.toArray⟩))
          obtain ⟨lk, x0, x1⟩ := blk2 HKw3.out
          have f0 := HKw3.out.frozen 0
          have f1 := HKw3.out.frozen 1
          refine ord_skip (w' := (w3.setCell ⟨k, 0, none⟩ (.int .i64 q)).setCell ⟨k, 1, none⟩ (.string ⟨t.toArray⟩)) (i := 18) (fuel := 2) (by simp; rfl) (by kernel_rfl) (by rfl) (by rfl) ?_ HB5.out ?_
          · go_simp
            all_goals with_reducible rfl
          clear x0 x1 f0 f1
          refine ord_take (v := ?_) (i := 19) (fuel := 1) (by simp; rfl) (by kernel_rfl) (by kernel_rfl) (by kernel_rfl) (Or.inl ⟨by rfl, fun w' hSw => ?_⟩) HB5.out ?_
          rotate_left
          · go_simp
            all_goals with_reducible rfl
          simp only [Act.put, List.setIfInBounds_toArray, List.set_cons_zero, List.set_cons_succ]
          refine ord_take (v := ?_) (i := 20) (fuel := 0) (by simp; rfl) (by kernel_rfl) (by kernel_rfl) (by kernel_rfl) (Or.inl ⟨by rfl, fun w' hSw => ?_⟩) HB5.out ?_
          rotate_left
          · go_simp
            all_goals with_reducible rfl
          simp only [Act.put, List.setIfInBounds_toArray, List.set_cons_zero, List.set_cons_succ]
          refine ord_done (by kernel_rfl) ?_ _
          go_wp2_with fail
          go_meet
          case rel => exact ⟨k, rfl, rfl, rfl, HK5.out, HB5.out⟩
        · skip
          obtain ⟨k, hk⟩ : ∃ k, w1.heap.size = k := ⟨_, rfl⟩
          obtain ⟨w2, hw3⟩ : ∃ V, w1.alloc (.cells #[.int .i64 0, .string ⟨#[]⟩] 58) = V := ⟨_, rfl⟩
          have hA := (Below.refl w1.heap.size w1).alloc (Nat.le_refl _) (.cells #[.int .i64 0, .string ⟨#[]⟩] 58)
          rw [hw3] at hA
          have HKw2 := Lib.hid (show Blk w2 k 58 #[.int .i64 0, .string ⟨#[]⟩] by rw [← hw3, ← hk]; exact Blk.new _ _ _)
          have HB2 := Lib.hid (HB1.out.trans (hA.mono HB1.out.size))
          have hkr : wr.heap.size ≤ k := by have : wr.heap.size ≤ w1.heap.size := HB1.out.size; omega
          clear hA
          refine ordI_only (v := .pointer (some ⟨k, 0, none⟩)) (w' := w2) (by simp; rfl) (by rfl) ?_ HB2.out ?_
          · rw [← hw3, ← hk]
            go_simp
            all_goals with_reducible rfl
          simp only [Act.put, List.setIfInBounds_toArray, List.set_cons_zero, List.set_cons_succ]
          clear hw3
          refine ord_call (f := 43) (args := #[.slice Ax (n - u) (c - u), .int .i64 (u : Int), .int .i64 lst]) (w1 := w2) (i := 12) (fuel := 7) (by simp; rfl) (by kernel_rfl) (by rfl) ?_ ?_
          · go_simp
            all_goals with_reducible rfl
          (with_reducible refine (whole_c Ax (n - u) (c - u) (l.drop u) u lst R _ ((HC.out.below HB2.out).more HB2.out.size) HRW.out (by omega) (by omega)).mono ?_)
          rintro e w3 ⟨rfl, hbx⟩
          have HB3 := Lib.hid (HB2.out.trans (hbx.mono HB2.out.size))
          rw [HV.out]
          refine ⟨_, rfl, HB3.out, ?_⟩
          simp only [Act.put, List.setIfInBounds_toArray, List.set_cons_zero, List.set_cons_succ]
          have HKw3 := Lib.hid (HKw2.out.below hbx HKw2.out.lt)
          refine ord_take (v := ?_) (i := 13) (fuel := 6) (by simp; rfl) (by kernel_rfl) (by kernel_rfl) (by kernel_rfl) (Or.inl ⟨by rfl, fun w' hSw => ?_⟩) HB3.out ?_
          rotate_left
          · go_simp
            all_goals with_reducible rfl
          simp only [Act.put, List.setIfInBounds_toArray, List.set_cons_zero, List.set_cons_succ]
          refine ord_take (v := ?_) (i := 14) (fuel := 5) (by simp; rfl) (by kernel_rfl) (by kernel_rfl) (by kernel_rfl) (Or.inl ⟨by rfl, fun w' hSw => ?_⟩) HB3.out ?_
          rotate_left
          · go_simp
            all_goals with_reducible rfl
          simp only [Act.put, List.setIfInBounds_toArray, List.set_cons_zero, List.set_cons_succ]
          refine ord_take (v := ?_) (i := 15) (fuel := 4) (by simp; rfl) (by kernel_rfl) (by kernel_rfl) (by kernel_rfl) (Or.inl ⟨by rfl, fun w' hSw => ?_⟩) HB3.out ?_
          rotate_left
          · go_simp
            all_goals with_reducible rfl
          simp only [Act.put, List.setIfInBounds_toArray, List.set_cons_zero, List.set_cons_succ]
          refine ord_take (v := ?_) (i := 16) (fuel := 3) (by simp; rfl) (by kernel_rfl) (by kernel_rfl) (by kernel_rfl) (Or.inl ⟨by rfl, fun w' hSw => ?_⟩) HB3.out ?_
          rotate_left
          · go_simp
            all_goals with_reducible rfl
          simp only [Act.put, List.setIfInBounds_toArray, List.set_cons_zero, List.set_cons_succ]
          have HK5 := Lib.hid ((HKw3.out.set_ 0 (.int .i64 q)).set_ 1 (.string ⟨t.toArray⟩))
          have HB5 := Lib.hid ((HB3.out.setCell (p := ⟨k, 0, none⟩) hkr (.int .i64 q)).setCell (p := ⟨k, 1, none⟩) hkr (.string ⟨t.toArray⟩))
          obtain ⟨lk, x0, x1⟩ := blk2 HKw3.out
          have f0 := HKw3.out.frozen 0
          have f1 := HKw3.out.frozen 1
          refine ord_skip (w' := (w3.setCell ⟨k, 0, none⟩ (.int .i64 q)).setCell ⟨k, 1, none⟩ (.string ⟨t.toArray⟩)) (i := 18) (fuel := 2) (by simp; rfl) (by kernel_rfl) (by rfl) (by rfl) ?_ HB5.out ?_
          · go_simp
            all_goals with_reducible rfl
          clear x0 x1 f0 f1
          refine ord_take (v := ?_) (i := 19) (fuel := 1) (by simp; rfl) (by kernel_rfl) (by kernel_rfl) (by kernel_rfl) (Or.inl ⟨by rfl, fun w' hSw => ?_⟩) HB5.out ?_
          rotate_left
          · go_simp
            all_goals with_reducible rfl
          simp only [Act.put, List.setIfInBounds_toArray, List.set_cons_zero, List.set_cons_succ]
          refine ord_take (v := ?_) (i := 20) (fuel := 0) (by simp; rfl) (by kernel_rfl) (by kernel_rfl) (by kernel_rfl) (Or.inl ⟨by rfl, fun w' hSw => ?_⟩) HB5.out ?_
          rotate_left
          · go_simp
            all_goals with_reducible rfl
          simp only [Act.put, List.setIfInBounds_toArray, List.set_cons_zero, List.set_cons_succ]
          refine ord_done (by kernel_rfl) ?_ _
          go_wp2_with fail
          go_meet
          case rel => exact ⟨k, rfl, rfl, rfl, HK5.out, HB5.out⟩
      · as_aux_lemma =>
        obtain ⟨k, hk⟩ : ∃ k, wr.drew.heap.size = k := ⟨_, rfl⟩
        obtain ⟨w1, hw3⟩ : ∃ V, wr.drew.alloc (.cells #[.int .i64 0, .string ⟨#[]⟩] 58) = V := ⟨_, rfl⟩
        have hA := (Below.refl wr.drew.heap.size wr.drew).alloc (Nat.le_refl _) (.cells #[.int .i64 0, .string ⟨#[]⟩] 58)
        rw [hw3] at hA
        have HKw1 := Lib.hid (show Blk w1 k 58 #[.int .i64 0, .string ⟨#[]⟩] by rw [← hw3, ← hk]; exact Blk.new _ _ _)
        have HB1 := Lib.hid (HBd.out.trans (hA.mono HBd.out.size))
        have hkr : wr.heap.size ≤ k := by have : wr.heap.size ≤ wr.drew.heap.size := HBd.out.size; omega
        clear hA
        refine ordI_only (v := .pointer (some ⟨k, 0, none⟩)) (w' := w1) (by simp; rfl) (by rfl) ?_ HB1.out ?_
        · rw [← hw3, ← hk]
          go_simp
          all_goals with_reducible rfl
        simp only [Act.put, List.setIfInBounds_toArray, List.set_cons_zero, List.set_cons_succ]
        clear hw3
        refine ord_call (f := 32) (args := #[.pointer (some ⟨p, 0, none⟩)]) (w1 := w1) (i := 11) (fuel := 8) (by simp; rfl) (by kernel_rfl) (by rfl) ?_ ?_
        · go_simp
          all_goals with_reducible rfl
        (with_reducible refine (last_c lst (HR.out.below HB1.out) HLS.out (by omega)).mono ?_)
        rintro e w2 ⟨rfl, hbx⟩
        have HB2 := Lib.hid (HB1.out.trans (hbx.mono HB1.out.size))
        refine ⟨_, rfl, HB2.out, ?_⟩
        simp only [Act.put, List.setIfInBounds_toArray, List.set_cons_zero, List.set_cons_succ]
        have HKw2 := Lib.hid (HKw1.out.below hbx HKw1.out.lt)
        clear hbx
        refine ord_call (f := 43) (args := #[.slice Ax (n - u) (c - u), .int .i64 (u : Int), .int .i64 lst]) (w1 := w2) (i := 12) (fuel := 7) (by simp; rfl) (by kernel_rfl) (by rfl) ?_ ?_
        · go_simp
          all_goals with_reducible rfl
        (with_reducible refine (whole_c Ax (n - u) (c - u) (l.drop u) u lst R _ ((HC.out.below HB2.out).more HB2.out.size) HRW.out (by omega) (by omega)).mono ?_)
        rintro e w3 ⟨rfl, hbx⟩
        have HB3 := Lib.hid (HB2.out.trans (hbx.mono HB2.out.size))
        rw [HV.out]
        refine ⟨_, rfl, HB3.out, ?_⟩
        simp only [Act.put, List.setIfInBounds_toArray, List.set_cons_zero, List.set_cons_succ]
        have HKw3 := Lib.hid (HKw2.out.below hbx HKw2.out.lt)
        refine ord_take (v := ?_) (i := 13) (fuel := 6) (by simp; rfl) (by kernel_rfl) (by kernel_rfl) (by kernel_rfl) (Or.inl ⟨by rfl, fun w' hSw => ?_⟩) HB3.out ?_
        rotate_left
        · go_simp
          all_goals with_reducible rfl
        simp only [Act.put, List.setIfInBounds_toArray, List.set_cons_zero, List.set_cons_succ]
        refine ord_take (v := ?_) (i := 14) (fuel := 5) (by simp; rfl) (by kernel_rfl) (by kernel_rfl) (by kernel_rfl) (Or.inl ⟨by rfl, fun w' hSw => ?_⟩) HB3.out ?_
        rotate_left
        · go_simp
          all_goals with_reducible rfl
        simp only [Act.put, List.setIfInBounds_toArray, List.set_cons_zero, List.set_cons_succ]
        refine ord_take (v := ?_) (i := 15) (fuel := 4) (by simp; rfl) (by kernel_rfl) (by kernel_rfl) (by kernel_rfl) (Or.inl ⟨by rfl, fun w' hSw => ?_⟩) HB3.out ?_
        rotate_left
        · go_simp
          all_goals with_reducible rfl
        simp only [Act.put, List.setIfInBounds_toArray, List.set_cons_zero, List.set_cons_succ]
        refine ord_take (v := ?_) (i := 16) (fuel := 3) (by simp; rfl) (by kernel_rfl) (by kernel_rfl) (by kernel_rfl) (Or.inl ⟨by rfl, fun w' hSw => ?_⟩) HB3.out ?_
        rotate_left
        · go_simp
          all_goals with_reducible rfl
        simp only [Act.put, List.setIfInBounds_toArray, List.set_cons_zero, List.set_cons_succ]
        have HK5 := Lib.hid ((HKw3.out.set_ 0 (.int .i64 q)).set_ 1 (.string ⟨t.toArray⟩))
        have HB5 := Lib.hid ((HB3.out.setCell (p := ⟨k, 0, none⟩) hkr (.int .i64 q)).setCell (p := ⟨k, 1, none⟩) hkr (.string ⟨t.toArray⟩))
        obtain ⟨lk, x0, x1⟩ := blk2 HKw3.out
        have f0 := HKw3.out.frozen 0
        have f1 := HKw3.out.frozen 1
        refine ord_skip (w' := (w3.setCell ⟨k, 0, none⟩ (.int .i64 q)).setCell ⟨k, 1, none⟩ (.string ⟨t.toArray⟩)) (i := 18) (fuel := 2) (by simp; rfl) (by kernel_rfl) (by rfl) (by rfl) ?_ HB5.out ?_
        · go_simp
          all_goals with_reducible rfl
        clear x0 x1 f0 f1
        refine ord_take (v := ?_) (i := 19) (fuel := 1) (by simp; rfl) (by kernel_rfl) (by kernel_rfl) (by kernel_rfl) (Or.inl ⟨by rfl, fun w' hSw => ?_⟩) HB5.out ?_
        rotate_left
        · go_simp
          all_goals with_reducible rfl
        simp only [Act.put, List.setIfInBounds_toArray, List.set_cons_zero, List.set_cons_succ]
        refine ord_take (v := ?_) (i := 20) (fuel := 0) (by simp; rfl) (by kernel_rfl) (by kernel_rfl) (by kernel_rfl) (Or.inl ⟨by rfl, fun w' hSw => ?_⟩) HB5.out ?_
        rotate_left
        · go_simp
          all_goals with_reducible rfl
        simp only [Act.put, List.setIfInBounds_toArray, List.set_cons_zero, List.set_cons_succ]
        refine ord_done (by kernel_rfl) ?_ _
        go_wp2_with fail
        go_meet
        case rel => exact ⟨k, rfl, rfl, rfl, HK5.out, HB5.out⟩
    case rest =>
      as_aux_lemma =>
      obtain ⟨k, rfl, rfl, rfl, hk, hb⟩ := hcut
      obtain ⟨V, rfl⟩ : ∃ V : World, V = wc := ⟨_, rfl⟩
      have HRv := Lib.hid (HR.out.below hb)
      have HK := Lib.hid hk
      have HBv := Lib.hid (HB.out.trans (But.of_below hb [p]))
      clear hb hk
      cases β with
      | false =>
        obtain rfl : R = none := hβ0 rfl
        have HFF := Lib.hid (show findB l = (L, u) by rw [HF.out, HLS.out, findF_done HRW.out]; simp)
        go_wp2
        go_end0
        exact ⟨rfl, A', c', by rw [HFF.out]; exact HRv.out, HBv.out⟩
      | true =>
        obtain rfl : R = some (⟨q, t⟩, m) := hβ1 rfl
        obtain ⟨f', hf', hff, hum, hm20, hFm⟩ := findF_more hlen hf HRW.out
        have HFm := Lib.hid hFm
        clear hFm
        obtain ⟨lk, x0, x1⟩ := blk2 HK.out
        have hBV : w.heap.size ≤ V.heap.size := HBv.out.size
        go_wp2_with fail
        (with_reducible refine (add_c q t m HRv.out (by omega) hBV (by omega) (by omega)).mono ?_)
        rintro e V2 ⟨rfl, A2, c2, hr2, hb2⟩
        have HR2 := Lib.hid hr2
        have HB2 := Lib.hid (show But [p] w V2 by
          refine ⟨hb2.os.trans HBv.out.os, hb2.tape.trans HBv.out.tape, hb2.output.trans HBv.out.output, Nat.le_trans HBv.out.size hb2.size, fun i hi hx => ?_⟩
          refine (hb2.block i (Nat.lt_of_lt_of_le hi HBv.out.size) (fun hm => ?_)).trans (HBv.out.block i hi hx)
          rcases List.mem_cons.1 hm with rfl | hm
          · exact hx (by simp)
          · have := HW.out i hm
            omega)
        have HUr := Lib.hid (uAt_rl HR.out)
        have HU2 := Lib.hid (uAt_rl hr2)
        clear hb2 hr2
        go_wp2
        go_roundw
        case rel => exact ⟨A2, c2, L ++ [⟨q, t⟩], u + m, f', HR2.out, by omega, by omega, by simp; omega, by rw [lastB_add, HF.out, HLS.out, HFm.out]; simp, HB2.out⟩
        case measure =>
          rw [HUr.out, HU2.out]
          omega
end Go.Proofs.Ytkjckdndkljeeaa

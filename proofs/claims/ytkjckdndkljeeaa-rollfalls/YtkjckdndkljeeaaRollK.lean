/- Package roll's other in pyxref4: next. -/
import Derived.Test.YtkjckdndkljeeaaRollC
import Derived.Test.YtkjckdndkljeeaaRollF
namespace Go.Proofs.Ytkjckdndkljeeaa
open Go.RowKit
theorem seq_step (u x : Nat) (hx : x < 256) : wrap64 (wrap64 (sgnB u * 256) + (x : Int)) = sgnB (u * 256 % 18446744073709551616 + x) := by
  unfold wrap64 sgnB
  split <;> split <;> omega
theorem lenB_drop {l : List UInt8} {o : Nat} (h : o + 2 ≤ l.length) : lenB (l.drop o) = if (l[o]'(by omega)).toNat < 128 ∨ (l[o + 1]'(by omega)).toNat < 128 then 0 else ((l[o]'(by omega)).toNat - 128) * 128 + ((l[o + 1]'(by omega)).toNat - 128) := by
  rw [lenB_two (by rw [List.length_drop]; omega)]
  simp only [List.getElem_drop, Nat.add_zero]
theorem drop_two (l : List UInt8) (o k : Nat) : (l.drop o).drop k = l.drop (o + k) := by rw [List.drop_drop]
theorem txtB_none {X : List UInt8} {n : Nat} (hX : X.length = n) (h : NoT n X) : txtB X = none := by
  unfold txtB
  rw [if_pos (by rcases h with h | h | h; exact .inl h; exact .inr (.inl h); exact .inr (.inr (by omega)))]
theorem txtB_more {X : List UInt8} {n s y : Nat} (hX : X.length = n) (hs : firstS X = s) (hy : firstN X = (y : Int)) (h : s + y ≠ n) : txtB X = none := by
  unfold txtB
  rw [if_pos (.inr (.inr (by omega)))]
theorem txtB_some {X : List UInt8} {n s y : Nat} (hX : X.length = n) (hs : firstS X = s) (hy : firstN X = (y : Int)) (h0 : s ≠ 0) (h : s + y = n) : txtB X = some ((X.drop s).take y) := by
  unfold txtB
  rw [if_neg (by omega), hs, List.take_of_length_le (by rw [List.length_drop]; omega)]
/-- What ReadText answers of a text that ought to be whole. -/
def RtE (w : World) (X : List UInt8) (e : Ending) (w' : World) : Prop := ∃ (bd : List UInt8) (A2 : Option Addr) (m2 c2 : Nat) (er : Int), e = .returned (.tuple #[.string ⟨bd.toArray⟩, .slice A2 m2 c2, .int .i64 er]) ∧ Below w.heap.size w w' ∧
  ((er = 2 ∧ txtB X = none) ∨ (er = 0 ∧ 0 < m2 ∧ txtB X = none) ∨ (er = 0 ∧ m2 = 0 ∧ txtB X = some bd))
theorem refRT_c (A : Option Addr) (n c : Nat) (X : List UInt8) (w : World) (h : Bs w w.heap.size A n c X) (hn : n ≤ 140737488355328) : Calls Try.prog 49 #[.slice A n c] w (RtE w X) := by
  have hX := h.len
  refine (refReadText_c A n c X w h hn).mono ?_
  rintro e w' (⟨hno, rfl, hb⟩ | ⟨s, y, A', m, c', hs, hy, h0, hsy, rfl, hbs, hb⟩)
  · exact ⟨[], none, 0, 0, 2, rfl, hb, .inl ⟨rfl, txtB_none hX hno⟩⟩
  · have hm := hbs.len
    rw [List.length_drop] at hm
    by_cases hq : s + y = n
    · exact ⟨_, A', m, c', 0, rfl, hb, .inr (.inr ⟨rfl, by omega, txtB_some hX hs hy h0 hq⟩)⟩
    · exact ⟨_, A', m, c', 0, rfl, hb, .inr (.inl ⟨rfl, by omega, txtB_more hX hs hy hq⟩)⟩
set_option maxRecDepth 100000 in
set_option maxHeartbeats 6400000 in
theorem next_c (A : Option Addr) (n c : Nat) (l : List UInt8) (o : Nat) (last : Int) (R : Option (Rec × Nat)) (w : World) (h : Bs w w.heap.size A n c l) (hR : wholeB (l.drop o) o last = R) (hn : n ≤ 1000000) (ho : o ≤ 1000000) :
    Calls Try.prog 40 #[.slice A n c, .int .i64 (o : Int), .int .i64 last] w fun e w' => e = .returned (whV R) ∧ Below w.heap.size w w' := by
  have hlen := h.len
  have hroom := h.room
  obtain ⟨W, hW⟩ : ∃ W, w.alloc (.cells #[.int .i64 0, .string ⟨#[]⟩] 74) = W := ⟨_, rfl⟩
  obtain ⟨k, hk⟩ : ∃ k, w.heap.size = k := ⟨_, rfl⟩
  have hb : Below w.heap.size w W := by rw [← hW]; exact (Below.refl _ _).alloc (Nat.le_refl _) _
  have HKk := Lib.hid (show w.heap.size ≤ k by omega)
  have HK := Lib.hid (show Blk W k 74 #[.int .i64 0, .string ⟨#[]⟩] by rw [← hW, ← hk]; exact Blk.new _ _ _)
  have HL := Lib.hid ((h.below hb).more hb.size)
  have HB := Lib.hid hb
  have HW := Lib.hid hW
  have HKE := Lib.hid hk
  have HR := Lib.hid hR
  clear h hR hW hk hb
  go_enter Try.func40, Try.ntmps40
  go_upto_region 1 with fail
  rw [HW.out, HKE.out]
  by_cases h1 : n < o + 10
  · as_aux_lemma =>
    obtain rfl : R = none := by rw [← HR.out, wholeB_short (by rw [List.length_drop]; omega)]
    have h1' : (n : Int) < (o : Int) + 10 := by omega
    have hk1 := HK.out.lt
    obtain ⟨lk, x0, x1⟩ := blk2 HK.out
    have f0 := HK.out.frozen 0
    have f1 := HK.out.frozen 1
    go_wp2
    obtain ⟨p0, p1⟩ := rec_end HK.out (.int .i64 0) (.string ⟨#[]⟩)
    exact bodyPost_ret (v := whV none) (by simp [whV, results, Try.results40, go_sem, p0, p1]) rfl ⟨rfl, (HB.out.setCell (p := ⟨k, 0, none⟩) HKk.out _).setCell (p := ⟨k, 1, none⟩) HKk.out _⟩
  have h1' : ¬ (n : Int) < (o : Int) + 10 := by omega
  obtain ⟨g, o', _, rfl, _, cx⟩ := HL.out.at_ (k := o) (by omega)
  obtain ⟨_, _, _, e1, _, cy⟩ := HL.out.at_ (k := o + 1) (by omega)
  cases e1
  obtain ⟨x, hx⟩ : ∃ x : Nat, (l[o]'(by omega)).toNat = x := ⟨_, rfl⟩
  obtain ⟨y, hy⟩ : ∃ y : Nat, (l[o + 1]'(by omega)).toNat = y := ⟨_, rfl⟩
  have hx2 := u8_lt (l[o]'(by omega))
  have hy2 := u8_lt (l[o + 1]'(by omega))
  have hlb := lenB_drop (l := l) (o := o) (by omega)
  rw [hx] at hx2 cx hlb
  rw [hy] at hy2 cy hlb
  have HLB := Lib.hid hlb
  have i1 : (0 : Int) ≤ (o : Int) := by omega
  have i2 : (o : Int) < (n : Int) := by omega
  have i3 : (o : Int) + 1 < (n : Int) := by omega
  have i4 : (0 : Int) ≤ (o : Int) + 1 := by omega
  have i5 : ((o : Int) + 1).toNat = o + 1 := by omega
  clear hx hy hlb
  by_cases h2 : x < 128
  · as_aux_lemma =>
    obtain rfl : R = none := by
      rw [← HR.out]
      unfold wholeB
      rw [if_pos (.inl (by rw [HLB.out, if_pos (.inl h2)]; omega))]
    have h2' : (x : Int) < 128 := by omega
    have hk1 := HK.out.lt
    obtain ⟨lk, x0, x1⟩ := blk2 HK.out
    have f0 := HK.out.frozen 0
    have f1 := HK.out.frozen 1
    go_wp2
    obtain ⟨p0, p1⟩ := rec_end HK.out (.int .i64 0) (.string ⟨#[]⟩)
    exact bodyPost_ret (v := whV none) (by simp [whV, results, Try.results40, go_sem, p0, p1]) rfl ⟨rfl, (HB.out.setCell (p := ⟨k, 0, none⟩) HKk.out _).setCell (p := ⟨k, 1, none⟩) HKk.out _⟩
  by_cases h3 : y < 128
  · as_aux_lemma =>
    obtain rfl : R = none := by
      rw [← HR.out]
      unfold wholeB
      rw [if_pos (.inl (by rw [HLB.out, if_pos (.inr h3)]; omega))]
    have h2' : ¬ (x : Int) < 128 := by omega
    have h3' : (y : Int) < 128 := by omega
    have hk1 := HK.out.lt
    obtain ⟨lk, x0, x1⟩ := blk2 HK.out
    have f0 := HK.out.frozen 0
    have f1 := HK.out.frozen 1
    go_wp2
    obtain ⟨p0, p1⟩ := rec_end HK.out (.int .i64 0) (.string ⟨#[]⟩)
    exact bodyPost_ret (v := whV none) (by simp [whV, results, Try.results40, go_sem, p0, p1]) rfl ⟨rfl, (HB.out.setCell (p := ⟨k, 0, none⟩) HKk.out _).setCell (p := ⟨k, 1, none⟩) HKk.out _⟩
  have h2' : ¬ (x : Int) < 128 := by omega
  have h3' : ¬ (y : Int) < 128 := by omega
  obtain ⟨m, hm⟩ : ∃ m, (x - 128) * 128 + (y - 128) = m := ⟨_, rfl⟩
  have hm0 : lenB (l.drop o) = m := by rw [HLB.out, if_neg (by omega), hm]
  have hmi : ((x : Int) - 128) * 128 + (y : Int) - 128 = (m : Int) := by omega
  have hm2 : m ≤ 16383 := by omega
  have HM := Lib.hid hm0
  have hR := HR.out
  unfold wholeB at hR
  rw [hm0, List.length_drop, hlen] at hR
  have HRR := Lib.hid hR
  clear hm hm0 hR HLB HR
  have hw1 : IntKind.i64.wrap ((x : Int) - 128) = (x : Int) - 128 := by rw [IntKind.wrap_i64]; omega
  have hw2 : IntKind.i64.wrap (((x : Int) - 128) * 128) = ((x : Int) - 128) * 128 := by rw [IntKind.wrap_i64]; omega
  have hw3 : IntKind.i64.wrap (((x : Int) - 128) * 128 + (y : Int)) = ((x : Int) - 128) * 128 + (y : Int) := by rw [IntKind.wrap_i64]; omega
  have hw4 : IntKind.i64.wrap (((x : Int) - 128) * 128 + (y : Int) - 128) = (m : Int) := by rw [IntKind.wrap_i64]; omega
  have hw5 : IntKind.i64.wrap ((o : Int) + 1) = (o : Int) + 1 := by rw [IntKind.wrap_i64]; omega
  have hwx : IntKind.i64.wrap (x : Int) = (x : Int) := by rw [IntKind.wrap_i64]; omega
  have hwy : IntKind.i64.wrap (y : Int) = (y : Int) := by rw [IntKind.wrap_i64]; omega
  have hwm : IntKind.i64.wrap (m : Int) = (m : Int) := by rw [IntKind.wrap_i64]; omega
  go_upto_region 5 with fail
  go_cut [9] (fun v wx => v = .int .i64 m ∧ Below W.heap.size W wx)
  case first =>
    as_aux_lemma =>
    refine wp_region_ord (S := fun V => V = W.drew) (by kernel_rfl) ?_
    refine ord_take (v := ?_) (i := 0) (fuel := 15) (by simp; rfl) (by kernel_rfl) (by kernel_rfl) (by kernel_rfl) (Or.inl ⟨by rfl, fun w' hSw => ?_⟩) rfl ?_
    rotate_left
    · go_simp
      all_goals with_reducible rfl
    simp only [Act.put, List.setIfInBounds_toArray, List.set_cons_zero, List.set_cons_succ]
    refine ord_take (v := ?_) (i := 1) (fuel := 14) (by simp; rfl) (by kernel_rfl) (by kernel_rfl) (by kernel_rfl) (Or.inl ⟨by rfl, fun w' hSw => ?_⟩) rfl ?_
    rotate_left
    · go_simp
      all_goals with_reducible rfl
    simp only [Act.put, List.setIfInBounds_toArray, List.set_cons_zero, List.set_cons_succ]
    refine ord_take (v := ?_) (i := 2) (fuel := 13) (by simp; rfl) (by kernel_rfl) (by kernel_rfl) (by kernel_rfl) (Or.inl ⟨by rfl, fun w' hSw => ?_⟩) rfl ?_
    rotate_left
    · go_simp
      all_goals with_reducible rfl
    simp only [Act.put, List.setIfInBounds_toArray, List.set_cons_zero, List.set_cons_succ]
    refine ord_take (v := ?_) (i := 3) (fuel := 12) (by simp; rfl) (by kernel_rfl) (by kernel_rfl) (by kernel_rfl) (Or.inl ⟨by rfl, fun w' hSw => ?_⟩) rfl ?_
    rotate_left
    · dsimp only at hSw
      subst hSw
      have cc : W.drew.cell? ⟨g, o' + o, none⟩ = _ := cx
      go_simp
      all_goals with_reducible rfl
    simp only [Act.put, List.setIfInBounds_toArray, List.set_cons_zero, List.set_cons_succ]
    refine ord_take (v := ?_) (i := 4) (fuel := 11) (by simp; rfl) (by kernel_rfl) (by kernel_rfl) (by kernel_rfl) (Or.inl ⟨by rfl, fun w' hSw => ?_⟩) rfl ?_
    rotate_left
    · go_simp
      all_goals with_reducible rfl
    simp only [Act.put, List.setIfInBounds_toArray, List.set_cons_zero, List.set_cons_succ]
    refine ord_take (v := ?_) (i := 5) (fuel := 10) (by simp; rfl) (by kernel_rfl) (by kernel_rfl) (by kernel_rfl) (Or.inl ⟨by rfl, fun w' hSw => ?_⟩) rfl ?_
    rotate_left
    · go_simp
      all_goals with_reducible rfl
    simp only [Act.put, List.setIfInBounds_toArray, List.set_cons_zero, List.set_cons_succ]
    refine ord_take (v := ?_) (i := 6) (fuel := 9) (by simp; rfl) (by kernel_rfl) (by kernel_rfl) (by kernel_rfl) (Or.inl ⟨by rfl, fun w' hSw => ?_⟩) rfl ?_
    rotate_left
    · go_simp
      all_goals with_reducible rfl
    simp only [Act.put, List.setIfInBounds_toArray, List.set_cons_zero, List.set_cons_succ]
    refine ord_take (v := ?_) (i := 7) (fuel := 8) (by simp; rfl) (by kernel_rfl) (by kernel_rfl) (by kernel_rfl) (Or.inl ⟨by rfl, fun w' hSw => ?_⟩) rfl ?_
    rotate_left
    · go_simp
      all_goals with_reducible rfl
    simp only [Act.put, List.setIfInBounds_toArray, List.set_cons_zero, List.set_cons_succ]
    refine ord_take (v := ?_) (i := 8) (fuel := 7) (by simp; rfl) (by kernel_rfl) (by kernel_rfl) (by kernel_rfl) (Or.inl ⟨by rfl, fun w' hSw => ?_⟩) rfl ?_
    rotate_left
    · go_simp
      all_goals with_reducible rfl
    simp only [Act.put, List.setIfInBounds_toArray, List.set_cons_zero, List.set_cons_succ]
    refine ord_take (v := ?_) (i := 9) (fuel := 6) (by simp; rfl) (by kernel_rfl) (by kernel_rfl) (by kernel_rfl) (Or.inl ⟨by rfl, fun w' hSw => ?_⟩) rfl ?_
    rotate_left
    · go_simp
      all_goals with_reducible rfl
    simp only [Act.put, List.setIfInBounds_toArray, List.set_cons_zero, List.set_cons_succ]
    refine ord_take (v := ?_) (i := 10) (fuel := 5) (by simp; rfl) (by kernel_rfl) (by kernel_rfl) (by kernel_rfl) (Or.inl ⟨by rfl, fun w' hSw => ?_⟩) rfl ?_
    rotate_left
    · go_simp
      all_goals with_reducible rfl
    simp only [Act.put, List.setIfInBounds_toArray, List.set_cons_zero, List.set_cons_succ]
    refine ord_take (v := ?_) (i := 11) (fuel := 4) (by simp; rfl) (by kernel_rfl) (by kernel_rfl) (by kernel_rfl) (Or.inl ⟨by rfl, fun w' hSw => ?_⟩) rfl ?_
    rotate_left
    · dsimp only at hSw
      subst hSw
      have cc : W.drew.cell? ⟨g, o' + (o + 1), none⟩ = _ := cy
      go_simp
      all_goals with_reducible rfl
    simp only [Act.put, List.setIfInBounds_toArray, List.set_cons_zero, List.set_cons_succ]
    refine ord_take (v := ?_) (i := 12) (fuel := 3) (by simp; rfl) (by kernel_rfl) (by kernel_rfl) (by kernel_rfl) (Or.inl ⟨by rfl, fun w' hSw => ?_⟩) rfl ?_
    rotate_left
    · go_simp
      all_goals with_reducible rfl
    simp only [Act.put, List.setIfInBounds_toArray, List.set_cons_zero, List.set_cons_succ]
    refine ord_take (v := ?_) (i := 13) (fuel := 2) (by simp; rfl) (by kernel_rfl) (by kernel_rfl) (by kernel_rfl) (Or.inl ⟨by rfl, fun w' hSw => ?_⟩) rfl ?_
    rotate_left
    · go_simp
      all_goals with_reducible rfl
    simp only [Act.put, List.setIfInBounds_toArray, List.set_cons_zero, List.set_cons_succ]
    refine ord_take (v := ?_) (i := 14) (fuel := 1) (by simp; rfl) (by kernel_rfl) (by kernel_rfl) (by kernel_rfl) (Or.inl ⟨by rfl, fun w' hSw => ?_⟩) rfl ?_
    rotate_left
    · go_simp
      all_goals with_reducible rfl
    simp only [Act.put, List.setIfInBounds_toArray, List.set_cons_zero, List.set_cons_succ]
    refine ord_take (v := ?_) (i := 15) (fuel := 0) (by simp; rfl) (by kernel_rfl) (by kernel_rfl) (by kernel_rfl) (Or.inl ⟨by rfl, fun w' hSw => ?_⟩) rfl ?_
    rotate_left
    · go_simp
      all_goals with_reducible rfl
    simp only [Act.put, List.setIfInBounds_toArray, List.set_cons_zero, List.set_cons_succ]
    refine ord_done (by kernel_rfl) ?_ _
    go_wp2_with fail
    go_meet
    case rel => exact ⟨rfl, (Below.refl _ _).drew⟩
  case rest =>
  clear hwm hwx hwy hw1 hw2 hw3 hw4 hw5 cx cy hmi
  obtain ⟨rfl, hbd⟩ := hcut
  obtain ⟨V, rfl⟩ : ∃ V : World, V = wc := ⟨_, rfl⟩
  have HL1 := Lib.hid ((HL.out.below hbd).more hbd.size)
  have HK1 := Lib.hid (HK.out.below hbd HK.out.lt)
  have HB1 := Lib.hid (HB.out.trans (hbd.mono HB.out.size))
  clear hbd HL HK HB
  by_cases h4 : m < 10
  · as_aux_lemma =>
    obtain rfl : R = none := by rw [← HRR.out, if_pos (.inl h4)]
    have h4' : (m : Int) < 10 := by omega
    have hk1 := HK1.out.lt
    obtain ⟨lk, x0, x1⟩ := blk2 HK1.out
    have f0 := HK1.out.frozen 0
    have f1 := HK1.out.frozen 1
    go_wp2
    obtain ⟨p0, p1⟩ := rec_end HK1.out (.int .i64 0) (.string ⟨#[]⟩)
    exact bodyPost_ret (v := whV none) (by simp [whV, results, Try.results40, go_sem, p0, p1]) rfl ⟨rfl, (HB1.out.setCell (p := ⟨k, 0, none⟩) HKk.out _).setCell (p := ⟨k, 1, none⟩) HKk.out _⟩
  have h4' : ¬ (m : Int) < 10 := by omega
  by_cases h5 : n < o + 10 + m
  · as_aux_lemma =>
    obtain rfl : R = none := by rw [← HRR.out, if_pos (.inr (by omega))]
    have h5' : (n : Int) < (o : Int) + 10 + (m : Int) := by omega
    have hk1 := HK1.out.lt
    obtain ⟨lk, x0, x1⟩ := blk2 HK1.out
    have f0 := HK1.out.frozen 0
    have f1 := HK1.out.frozen 1
    go_wp2
    obtain ⟨p0, p1⟩ := rec_end HK1.out (.int .i64 0) (.string ⟨#[]⟩)
    exact bodyPost_ret (v := whV none) (by simp [whV, results, Try.results40, go_sem, p0, p1]) rfl ⟨rfl, (HB1.out.setCell (p := ⟨k, 0, none⟩) HKk.out _).setCell (p := ⟨k, 1, none⟩) HKk.out _⟩
  have h5' : ¬ (n : Int) < (o : Int) + 10 + (m : Int) := by omega
  have hT : Bs V V.heap.size (some ⟨g, o' + (o + 10), none⟩) m (c - (o + 10)) ((l.drop (o + 10)).take m) := HL1.out.mid (by omega) (by omega)
  have hS : Bs V V.heap.size (some ⟨g, o' + (o + 2), none⟩) 8 (c - (o + 2)) ((l.drop (o + 2)).take 8) := HL1.out.mid (by omega) (by omega)
  have hR := HRR.out
  rw [if_neg (by omega), drop_two, drop_two] at hR
  obtain ⟨T, hTT⟩ : ∃ T, (l.drop (o + 10)).take m = T := ⟨_, rfl⟩
  obtain ⟨_, _, hml0, e1, _, cm⟩ := HL1.out.at_ (k := o + 9 + m) (by omega)
  cases e1
  have hTl : T.length = m := by rw [← hTT]; exact hT.len
  have hlast : T.getD (m - 1) 0 = l[o + 9 + m]'hml0 := by
    subst hTT
    rw [getD_lt (by rw [hTl]; omega)]
    simp only [List.getElem_take, List.getElem_drop]
    congr 1
    omega
  rw [hTT] at hT hR
  obtain ⟨z, hz⟩ : ∃ z : Nat, (l[o + 9 + m]'hml0).toNat = z := ⟨_, rfl⟩
  have hz2 := u8_lt (l[o + 9 + m]'hml0)
  rw [hz] at cm hz2
  have HZ := Lib.hid hz
  have j1 : (0 : Int) ≤ (o : Int) + 9 + (m : Int) := by omega
  have j2 : (o : Int) + 9 + (m : Int) < (n : Int) := by omega
  have j3 : ((o : Int) + 9 + (m : Int)).toNat = o + 9 + m := by omega
  clear hz
  by_cases h6 : z = 255
  · subst h6
    have hze : (((255 : Nat) : Int) == 255) = true := rfl
    obtain ⟨β, hβ⟩ : ∃ β, ((l.drop (o + 2)).take 8 == be8 (sumM o T)) = β := ⟨_, rfl⟩
    have HBe := Lib.hid hβ
    have HLa := Lib.hid (show T.getD (m - 1) 0 = 255 by rw [hlast, ← u8_back (l[o + 9 + m]'hml0), HZ.out]; rfl)
    have HRR := Lib.hid hR
    have HT := Lib.hid hT
    have HS := Lib.hid hS
    have HTl := Lib.hid hTl
    have k1 : (10 : Int) ≤ (o : Int) + 10 := by omega
    have k2 : (o : Int) + 10 ≤ (o : Int) + 10 + (m : Int) := by omega
    have k3 : (o : Int) + 10 + (m : Int) ≤ (c : Int) := by omega
    have k4 : ((o : Int) + 10).toNat = o + 10 := by omega
    have k5 : ((o : Int) + 10 + (m : Int)).toNat = o + 10 + m := by omega
    have k6 : ¬ c = o + 10 := by omega
    have k7 : (0 : Int) ≤ (o : Int) + 10 := by omega
    have k8 : o + 10 + m - (o + 10) = m := by omega
    clear hlast hR hT hS hTT hβ HL1 hTl
    go_wp2
    clear k1 k2 k3 k4 k5 k6 k7 k8 i1 i2 i3 i4 i5 j1 j2 j3 cm
    go_loop [11, 12] (fun s i => ∃ j : Nat, j ≤ 8 ∧ i = .int .i64 j ∧ s = .int .i64 (sgnB (numB (T.take j)))) (fun _ i => 8 - (intOf i).toNat)
    case atStart => exact ⟨0, by omega, rfl, rfl⟩
    case round =>
      obtain ⟨j, hj, rfl, rfl⟩ := hrel
      obtain ⟨nu, hnu⟩ : ∃ nu, numB (T.take j) = nu := ⟨_, rfl⟩
      have HNU := Lib.hid hnu
      obtain ⟨sq, hsq⟩ : ∃ sq, sgnB nu = sq := ⟨_, rfl⟩
      have HSQ := Lib.hid hsq
      rw [hnu, hsq]
      clear hnu
      by_cases hj8 : j < 8
      · as_aux_lemma =>
        have hj8' : (j : Int) < 8 := by omega
        obtain ⟨g0, o0, hl0, e0, _, c0⟩ := HT.out.at_ (k := j) (by omega)
        cases e0
        have HE := Lib.hid (show numB (T.take (j + 1)) = nu * 256 % 18446744073709551616 + T[j].toNat by rw [num_step hl0, HNU.out])
        obtain ⟨xb, hxb⟩ : ∃ xb : Nat, T[j].toNat = xb := ⟨_, rfl⟩
        have hxb2 := u8_lt T[j]
        rw [hxb] at c0 hxb2 HE
        have hst := seq_step nu xb hxb2
        rw [hsq, ← HE.out] at hst
        have HST := Lib.hid hst
        have hjm : (j : Int) < (m : Int) := by omega
        have hj0 : (0 : Int) ≤ (j : Int) := by omega
        clear hxb hst hsq
        go_wp2
        go_round
        case rel => exact ⟨j + 1, by omega, by go_num, by rw [← HST.out]⟩
        case measure => simp [intOf]; omega
      · obtain rfl : j = 8 := by omega
        have HSQ8 := Lib.hid (show sgnB (numB (T.take 8)) = sq by rw [HNU.out, HSQ.out])
        rw [HSQ8.out] at HRR
        have k2 : (8 : Int) ≤ (m : Int) - 1 := by omega
        have k3 : (m : Int) - 1 ≤ ((c - (o + 10) : Nat) : Int) := by omega
        have k4 : ¬ c - (o + 10) = 8 := by omega
        have k5 : ((m : Int) - 1).toNat = m - 1 := by omega
        have hX : Bs V V.heap.size (some ⟨g, o' + (o + 10) + 8, none⟩) (m - 1 - 8) (c - (o + 10) - 8) ((T.take (m - 1)).drop 8) := by
          have := (HT.out.head (k := m - 1) (by omega)).cut_no (k := 8) (by omega) k4
          simpa [Addr.add_lit] using this
        obtain ⟨X, hXX⟩ : ∃ X, (T.take (m - 1)).drop 8 = X := ⟨_, rfl⟩
        obtain ⟨nx, hnx⟩ : ∃ nx, m - 1 - 8 = nx := ⟨_, rfl⟩
        rw [hXX, hnx] at hX
        rw [hXX] at HRR
        have HX := Lib.hid hX
        have hnx2 : nx ≤ 16383 := by omega
        clear hX hXX hsq
        go_wp2_with fail
        clear hnx k2 k3 k4 k5
        have hXl := HX.out.len
        have hf := firstS_le X
        (with_reducible refine (refRT_c _ nx _ X _ HX.out (by omega)).mono ?_)
        rintro e V2 ⟨bd, A2, m2, c2, er, rfl, hb, hcls⟩
        have HK2 := Lib.hid (HK1.out.below hb HK1.out.lt)
        have HT2 := Lib.hid ((HT.out.below hb).more hb.size)
        have HS2 := Lib.hid ((HS.out.below hb).more hb.size)
        have HB2 := Lib.hid (HB1.out.trans (hb.mono HB1.out.size))
        have HCL := Lib.hid hcls
        clear hb hcls HX HT HS HK1 HB1 hf hXl
        go_upto_region 15 with fail
        go_cut [129] (fun v wx => v = .bool R.isNone ∧ Below V2.heap.size V2 wx)
        case first =>
          as_aux_lemma =>
          have HBd := Lib.hid (show Below V2.heap.size V2 V2.drew from (Below.refl _ _).drew)
          have hou : IntKind.u64.wrap (o : Int) = (o : Int) := by rw [IntKind.wrap_u64]; omega
          have hw1 : IntKind.i64.wrap ((o : Int) + 2) = (o : Int) + 2 := by rw [IntKind.wrap_i64]; omega
          have hw2 : IntKind.i64.wrap ((o : Int) + 10) = (o : Int) + 10 := by rw [IntKind.wrap_i64]; omega
          have q1 : (0 : Int) ≤ (o : Int) + 2 := by omega
          have q2 : (o : Int) + 2 ≤ (o : Int) + 10 := by omega
          have q3 : (o : Int) + 10 ≤ (c : Int) := by omega
          have q4 : ((o : Int) + 2).toNat = o + 2 := by omega
          have q5 : ((o : Int) + 10).toNat = o + 10 := by omega
          have q6 : ¬ c = o + 2 := by omega
          have q7 : o + 10 - (o + 2) = 8 := by omega
          have HSM := Lib.hid (show sumM o T < 18446744073709551616 from stp_lt _ _)
          have HMM := Lib.hid (show m ≤ 281474976710656 by omega)
          have HOO := Lib.hid (show o < 18446744073709551616 by omega)
          refine wp_region_ord (S := fun W' => Below V2.heap.size V2 W') (by kernel_rfl) ?_
          refine ord_take (v := ?_) (i := 0) (fuel := 27) (by simp; rfl) (by kernel_rfl) (by kernel_rfl) (by kernel_rfl) (Or.inl ⟨by rfl, fun w' hSw => ?_⟩) HBd.out ?_
          rotate_left
          · go_simp
            all_goals with_reducible rfl
          simp only [Act.put, List.setIfInBounds_toArray, List.set_cons_zero, List.set_cons_succ]
          refine ord_take (v := ?_) (i := 1) (fuel := 26) (by simp; rfl) (by kernel_rfl) (by kernel_rfl) (by kernel_rfl) (Or.inl ⟨by rfl, fun w' hSw => ?_⟩) HBd.out ?_
          rotate_left
          · go_simp
            all_goals with_reducible rfl
          simp only [Act.put, List.setIfInBounds_toArray, List.set_cons_zero, List.set_cons_succ]
          refine ord_take (v := ?_) (i := 2) (fuel := 25) (by simp; rfl) (by kernel_rfl) (by kernel_rfl) (by kernel_rfl) (Or.inl ⟨by rfl, fun w' hSw => ?_⟩) HBd.out ?_
          rotate_left
          · go_simp
            all_goals with_reducible rfl
          simp only [Act.put, List.setIfInBounds_toArray, List.set_cons_zero, List.set_cons_succ]
          refine ord_take (v := ?_) (i := 3) (fuel := 24) (by simp; rfl) (by kernel_rfl) (by kernel_rfl) (by kernel_rfl) (Or.inl ⟨by rfl, fun w' hSw => ?_⟩) HBd.out ?_
          rotate_left
          · go_simp
            all_goals with_reducible rfl
          simp only [Act.put, List.setIfInBounds_toArray, List.set_cons_zero, List.set_cons_succ]
          refine ord_take (v := ?_) (i := 4) (fuel := 23) (by simp; rfl) (by kernel_rfl) (by kernel_rfl) (by kernel_rfl) (Or.inl ⟨by rfl, fun w' hSw => ?_⟩) HBd.out ?_
          rotate_left
          · go_simp
            all_goals with_reducible rfl
          simp only [Act.put, List.setIfInBounds_toArray, List.set_cons_zero, List.set_cons_succ]
          refine ord_take (v := ?_) (i := 5) (fuel := 22) (by simp; rfl) (by kernel_rfl) (by kernel_rfl) (by kernel_rfl) (Or.inl ⟨by rfl, fun w' hSw => ?_⟩) HBd.out ?_
          rotate_left
          · go_simp
            all_goals with_reducible rfl
          simp only [Act.put, List.setIfInBounds_toArray, List.set_cons_zero, List.set_cons_succ]
          refine ord_take (v := ?_) (i := 6) (fuel := 21) (by simp; rfl) (by kernel_rfl) (by kernel_rfl) (by kernel_rfl) (Or.inl ⟨by rfl, fun w' hSw => ?_⟩) HBd.out ?_
          rotate_left
          · dsimp only at hSw
            have hq := str_run (HS2.out.below hSw)
            go_simp
            all_goals with_reducible rfl
          simp only [Act.put, List.setIfInBounds_toArray, List.set_cons_zero, List.set_cons_succ]
          refine ord_take (v := ?_) (i := 7) (fuel := 20) (by simp; rfl) (by kernel_rfl) (by kernel_rfl) (by kernel_rfl) (Or.inl ⟨by rfl, fun w' hSw => ?_⟩) HBd.out ?_
          rotate_left
          · go_simp
            all_goals with_reducible rfl
          simp only [Act.put, List.setIfInBounds_toArray, List.set_cons_zero, List.set_cons_succ]
          refine ord_take (v := ?_) (i := 8) (fuel := 19) (by simp; rfl) (by kernel_rfl) (by kernel_rfl) (by kernel_rfl) (Or.inl ⟨by rfl, fun w' hSw => ?_⟩) HBd.out ?_
          rotate_left
          · go_simp
            all_goals with_reducible rfl
          simp only [Act.put, List.setIfInBounds_toArray, List.set_cons_zero, List.set_cons_succ]
          refine ord_take (v := ?_) (i := 9) (fuel := 18) (by simp; rfl) (by kernel_rfl) (by kernel_rfl) (by kernel_rfl) (Or.inl ⟨by rfl, fun w' hSw => ?_⟩) HBd.out ?_
          rotate_left
          · go_simp
            all_goals with_reducible rfl
          simp only [Act.put, List.setIfInBounds_toArray, List.set_cons_zero, List.set_cons_succ]
          clear q1 q2 q3 q4 q5 q6 q7 hw1 hw2 hou
          refine ord_call (f := 51) (args := #[.int .u64 (o : Int), .slice (some ⟨g, o' + (o + 10), none⟩) m (c - (o + 10))]) (w1 := V2.drew) (i := 10) (fuel := 17) (by simp; rfl) (by kernel_rfl) (by rfl) ?_ ?_
          · go_simp
            all_goals with_reducible rfl
          refine (refSum_c o _ _ m (c - (o + 10)) T _ V2.heap.size rfl HOO.out (HT2.out.below HBd.out) HMM.out).mono ?_
          rintro e w' ⟨rfl, rfl⟩
          refine ⟨_, rfl, HBd.out, ?_⟩
          simp only [Act.put, List.setIfInBounds_toArray, List.set_cons_zero, List.set_cons_succ]
          refine ord_call (f := 50) (args := #[.int .u64 (sumM o T : Int)]) (w1 := V2.drew) (i := 11) (fuel := 16) (by simp; rfl) (by kernel_rfl) (by rfl) ?_ ?_
          · go_simp
            all_goals with_reducible rfl
          refine (refBytes_c (sumM o T) _ _ rfl HSM.out).mono ?_
          rintro e w3 ⟨rfl, hO, hb⟩
          have HB3 := Lib.hid (HBd.out.trans (hb.mono HBd.out.size))
          obtain ⟨b1, hb1⟩ : ∃ b1, V2.drew.heap.size = b1 := ⟨_, rfl⟩
          rw [hb1] at hO
          rw [hb1]
          have hqs := str_run hO.bs
          clear hO hb hb1
          refine ⟨_, rfl, HB3.out, ?_⟩
          simp only [Act.put, List.setIfInBounds_toArray, List.set_cons_zero, List.set_cons_succ]
          refine ord_only (v := ?_) (w' := w3) (i := 12) (fuel := 15) (by simp; rfl) (by kernel_rfl) (by rfl) ?_ HB3.out ?_
          rotate_left
          · go_simp
            all_goals with_reducible rfl
          simp only [Act.put, List.setIfInBounds_toArray, List.set_cons_zero, List.set_cons_succ]
          clear hqs
          have HRN := HRR.out
          rw [HLa.out] at HRN
          cases β with
          | false =>
            obtain rfl : R = none := by rw [← HRN, if_pos (.inr (by have := HBe.out; simpa using this))]
            have hne : ((l.drop (o + 2)).take 8 == be8 (sumM o T)) = false := HBe.out
            have hne2 : (!((l.drop (o + 2)).take 8 == be8 (sumM o T))) = true := by rw [hne]; rfl
            clear HRN
            refine ord_take (v := ?_) (i := 13) (fuel := 14) (by simp; rfl) (by kernel_rfl) (by kernel_rfl) (by kernel_rfl) (Or.inl ⟨by rfl, fun w' hSw => ?_⟩) HB3.out ?_
            rotate_left
            · go_simp
              all_goals with_reducible rfl
            simp only [Act.put, List.setIfInBounds_toArray, List.set_cons_zero, List.set_cons_succ]
            refine ord_take (v := ?_) (i := 14) (fuel := 13) (by simp; rfl) (by kernel_rfl) (by kernel_rfl) (by kernel_rfl) (Or.inl ⟨by rfl, fun w' hSw => ?_⟩) HB3.out ?_
            rotate_left
            · go_simp
              all_goals with_reducible rfl
            simp only [Act.put, List.setIfInBounds_toArray, List.set_cons_zero, List.set_cons_succ]
            refine ord_take (v := undef) (i := 15) (fuel := 12) (by simp; rfl) (by kernel_rfl) (by kernel_rfl) (by kernel_rfl) (Or.inr ⟨by rfl, rfl⟩) HB3.out ?_
            simp only [Act.put, List.setIfInBounds_toArray, List.set_cons_zero, List.set_cons_succ]
            refine ord_take (v := undef) (i := 16) (fuel := 11) (by simp; rfl) (by kernel_rfl) (by kernel_rfl) (by kernel_rfl) (Or.inr ⟨by rfl, rfl⟩) HB3.out ?_
            simp only [Act.put, List.setIfInBounds_toArray, List.set_cons_zero, List.set_cons_succ]
            refine ord_take (v := undef) (i := 17) (fuel := 10) (by simp; rfl) (by kernel_rfl) (by kernel_rfl) (by kernel_rfl) (Or.inr ⟨by rfl, rfl⟩) HB3.out ?_
            simp only [Act.put, List.setIfInBounds_toArray, List.set_cons_zero, List.set_cons_succ]
            refine ord_take (v := ?_) (i := 18) (fuel := 9) (by simp; rfl) (by kernel_rfl) (by kernel_rfl) (by kernel_rfl) (Or.inl ⟨by rfl, fun w' hSw => ?_⟩) HB3.out ?_
            rotate_left
            · go_simp
              all_goals with_reducible rfl
            simp only [Act.put, List.setIfInBounds_toArray, List.set_cons_zero, List.set_cons_succ]
            refine ord_take (v := ?_) (i := 19) (fuel := 8) (by simp; rfl) (by kernel_rfl) (by kernel_rfl) (by kernel_rfl) (Or.inl ⟨by rfl, fun w' hSw => ?_⟩) HB3.out ?_
            rotate_left
            · go_simp
              all_goals with_reducible rfl
            simp only [Act.put, List.setIfInBounds_toArray, List.set_cons_zero, List.set_cons_succ]
            refine ord_take (v := undef) (i := 20) (fuel := 7) (by simp; rfl) (by kernel_rfl) (by kernel_rfl) (by kernel_rfl) (Or.inr ⟨by rfl, rfl⟩) HB3.out ?_
            simp only [Act.put, List.setIfInBounds_toArray, List.set_cons_zero, List.set_cons_succ]
            refine ord_take (v := undef) (i := 21) (fuel := 6) (by simp; rfl) (by kernel_rfl) (by kernel_rfl) (by kernel_rfl) (Or.inr ⟨by rfl, rfl⟩) HB3.out ?_
            simp only [Act.put, List.setIfInBounds_toArray, List.set_cons_zero, List.set_cons_succ]
            refine ord_take (v := ?_) (i := 22) (fuel := 5) (by simp; rfl) (by kernel_rfl) (by kernel_rfl) (by kernel_rfl) (Or.inl ⟨by rfl, fun w' hSw => ?_⟩) HB3.out ?_
            rotate_left
            · go_simp
              all_goals with_reducible rfl
            simp only [Act.put, List.setIfInBounds_toArray, List.set_cons_zero, List.set_cons_succ]
            refine ord_take (v := ?_) (i := 23) (fuel := 4) (by simp; rfl) (by kernel_rfl) (by kernel_rfl) (by kernel_rfl) (Or.inl ⟨by rfl, fun w' hSw => ?_⟩) HB3.out ?_
            rotate_left
            · go_simp
              all_goals with_reducible rfl
            simp only [Act.put, List.setIfInBounds_toArray, List.set_cons_zero, List.set_cons_succ]
            refine ord_take (v := undef) (i := 24) (fuel := 3) (by simp; rfl) (by kernel_rfl) (by kernel_rfl) (by kernel_rfl) (Or.inr ⟨by rfl, rfl⟩) HB3.out ?_
            simp only [Act.put, List.setIfInBounds_toArray, List.set_cons_zero, List.set_cons_succ]
            refine ord_take (v := undef) (i := 25) (fuel := 2) (by simp; rfl) (by kernel_rfl) (by kernel_rfl) (by kernel_rfl) (Or.inr ⟨by rfl, rfl⟩) HB3.out ?_
            simp only [Act.put, List.setIfInBounds_toArray, List.set_cons_zero, List.set_cons_succ]
            refine ord_take (v := undef) (i := 26) (fuel := 1) (by simp; rfl) (by kernel_rfl) (by kernel_rfl) (by kernel_rfl) (Or.inr ⟨by rfl, rfl⟩) HB3.out ?_
            simp only [Act.put, List.setIfInBounds_toArray, List.set_cons_zero, List.set_cons_succ]
            refine ord_take (v := ?_) (i := 27) (fuel := 0) (by simp; rfl) (by kernel_rfl) (by kernel_rfl) (by kernel_rfl) (Or.inl ⟨by rfl, fun w' hSw => ?_⟩) HB3.out ?_
            rotate_left
            · go_simp
              all_goals with_reducible rfl
            simp only [Act.put, List.setIfInBounds_toArray, List.set_cons_zero, List.set_cons_succ]
            refine ord_done (by kernel_rfl) ?_ _
            go_wp2_with fail
            go_meet
            case rel => exact ⟨rfl, HB3.out⟩
          | true =>
            have hne : ((l.drop (o + 2)).take 8 == be8 (sumM o T)) = true := HBe.out
            have hne2 : (!((l.drop (o + 2)).take 8 == be8 (sumM o T))) = false := by rw [hne]; rfl
            rw [if_neg (by
              intro h
              rcases h with h | h
              · exact h rfl
              · exact h (by simpa using hne))] at HRN
            have HRM := Lib.hid HRN
            clear HRN
            by_cases h7 : sq ≤ last
            · obtain rfl : R = none := by rw [← HRM.out, if_pos h7]
              refine ord_take (v := ?_) (i := 13) (fuel := 14) (by simp; rfl) (by kernel_rfl) (by kernel_rfl) (by kernel_rfl) (Or.inl ⟨by rfl, fun w' hSw => ?_⟩) HB3.out ?_
              rotate_left
              · go_simp
                all_goals with_reducible rfl
              simp only [Act.put, List.setIfInBounds_toArray, List.set_cons_zero, List.set_cons_succ]
              refine ord_take (v := ?_) (i := 14) (fuel := 13) (by simp; rfl) (by kernel_rfl) (by kernel_rfl) (by kernel_rfl) (Or.inl ⟨by rfl, fun w' hSw => ?_⟩) HB3.out ?_
              rotate_left
              · go_simp
                all_goals with_reducible rfl
              simp only [Act.put, List.setIfInBounds_toArray, List.set_cons_zero, List.set_cons_succ]
              refine ord_take (v := ?_) (i := 15) (fuel := 12) (by simp; rfl) (by kernel_rfl) (by kernel_rfl) (by kernel_rfl) (Or.inl ⟨by rfl, fun w' hSw => ?_⟩) HB3.out ?_
              rotate_left
              · go_simp
                all_goals with_reducible rfl
              simp only [Act.put, List.setIfInBounds_toArray, List.set_cons_zero, List.set_cons_succ]
              refine ord_take (v := ?_) (i := 16) (fuel := 11) (by simp; rfl) (by kernel_rfl) (by kernel_rfl) (by kernel_rfl) (Or.inl ⟨by rfl, fun w' hSw => ?_⟩) HB3.out ?_
              rotate_left
              · go_simp
                all_goals with_reducible rfl
              simp only [Act.put, List.setIfInBounds_toArray, List.set_cons_zero, List.set_cons_succ]
              refine ord_take (v := ?_) (i := 17) (fuel := 10) (by simp; rfl) (by kernel_rfl) (by kernel_rfl) (by kernel_rfl) (Or.inl ⟨by rfl, fun w' hSw => ?_⟩) HB3.out ?_
              rotate_left
              · go_simp
                all_goals with_reducible rfl
              simp only [Act.put, List.setIfInBounds_toArray, List.set_cons_zero, List.set_cons_succ]
              refine ord_take (v := ?_) (i := 18) (fuel := 9) (by simp; rfl) (by kernel_rfl) (by kernel_rfl) (by kernel_rfl) (Or.inl ⟨by rfl, fun w' hSw => ?_⟩) HB3.out ?_
              rotate_left
              · go_simp
                all_goals with_reducible rfl
              simp only [Act.put, List.setIfInBounds_toArray, List.set_cons_zero, List.set_cons_succ]
              refine ord_take (v := ?_) (i := 19) (fuel := 8) (by simp; rfl) (by kernel_rfl) (by kernel_rfl) (by kernel_rfl) (Or.inl ⟨by rfl, fun w' hSw => ?_⟩) HB3.out ?_
              rotate_left
              · go_simp
                all_goals with_reducible rfl
              simp only [Act.put, List.setIfInBounds_toArray, List.set_cons_zero, List.set_cons_succ]
              refine ord_take (v := undef) (i := 20) (fuel := 7) (by simp; rfl) (by kernel_rfl) (by kernel_rfl) (by kernel_rfl) (Or.inr ⟨by rfl, rfl⟩) HB3.out ?_
              simp only [Act.put, List.setIfInBounds_toArray, List.set_cons_zero, List.set_cons_succ]
              refine ord_take (v := undef) (i := 21) (fuel := 6) (by simp; rfl) (by kernel_rfl) (by kernel_rfl) (by kernel_rfl) (Or.inr ⟨by rfl, rfl⟩) HB3.out ?_
              simp only [Act.put, List.setIfInBounds_toArray, List.set_cons_zero, List.set_cons_succ]
              refine ord_take (v := ?_) (i := 22) (fuel := 5) (by simp; rfl) (by kernel_rfl) (by kernel_rfl) (by kernel_rfl) (Or.inl ⟨by rfl, fun w' hSw => ?_⟩) HB3.out ?_
              rotate_left
              · go_simp
                all_goals with_reducible rfl
              simp only [Act.put, List.setIfInBounds_toArray, List.set_cons_zero, List.set_cons_succ]
              refine ord_take (v := ?_) (i := 23) (fuel := 4) (by simp; rfl) (by kernel_rfl) (by kernel_rfl) (by kernel_rfl) (Or.inl ⟨by rfl, fun w' hSw => ?_⟩) HB3.out ?_
              rotate_left
              · go_simp
                all_goals with_reducible rfl
              simp only [Act.put, List.setIfInBounds_toArray, List.set_cons_zero, List.set_cons_succ]
              refine ord_take (v := undef) (i := 24) (fuel := 3) (by simp; rfl) (by kernel_rfl) (by kernel_rfl) (by kernel_rfl) (Or.inr ⟨by rfl, rfl⟩) HB3.out ?_
              simp only [Act.put, List.setIfInBounds_toArray, List.set_cons_zero, List.set_cons_succ]
              refine ord_take (v := undef) (i := 25) (fuel := 2) (by simp; rfl) (by kernel_rfl) (by kernel_rfl) (by kernel_rfl) (Or.inr ⟨by rfl, rfl⟩) HB3.out ?_
              simp only [Act.put, List.setIfInBounds_toArray, List.set_cons_zero, List.set_cons_succ]
              refine ord_take (v := undef) (i := 26) (fuel := 1) (by simp; rfl) (by kernel_rfl) (by kernel_rfl) (by kernel_rfl) (Or.inr ⟨by rfl, rfl⟩) HB3.out ?_
              simp only [Act.put, List.setIfInBounds_toArray, List.set_cons_zero, List.set_cons_succ]
              refine ord_take (v := ?_) (i := 27) (fuel := 0) (by simp; rfl) (by kernel_rfl) (by kernel_rfl) (by kernel_rfl) (Or.inl ⟨by rfl, fun w' hSw => ?_⟩) HB3.out ?_
              rotate_left
              · go_simp
                all_goals with_reducible rfl
              simp only [Act.put, List.setIfInBounds_toArray, List.set_cons_zero, List.set_cons_succ]
              refine ord_done (by kernel_rfl) ?_ _
              go_wp2_with fail
              go_meet
              case rel => exact ⟨rfl, HB3.out⟩
            · have HRN := HRM.out
              rw [if_neg h7] at HRN
              have HRM := Lib.hid HRN
              clear HRN
              rcases HCL.out with ⟨rfl, ht⟩ | ⟨rfl, hm0, ht⟩ | ⟨rfl, rfl, ht⟩
              · obtain rfl : R = none := by rw [← HRM.out, ht]
                clear ht
                refine ord_take (v := ?_) (i := 13) (fuel := 14) (by simp; rfl) (by kernel_rfl) (by kernel_rfl) (by kernel_rfl) (Or.inl ⟨by rfl, fun w' hSw => ?_⟩) HB3.out ?_
                rotate_left
                · go_simp
                  all_goals with_reducible rfl
                simp only [Act.put, List.setIfInBounds_toArray, List.set_cons_zero, List.set_cons_succ]
                refine ord_take (v := ?_) (i := 14) (fuel := 13) (by simp; rfl) (by kernel_rfl) (by kernel_rfl) (by kernel_rfl) (Or.inl ⟨by rfl, fun w' hSw => ?_⟩) HB3.out ?_
                rotate_left
                · go_simp
                  all_goals with_reducible rfl
                simp only [Act.put, List.setIfInBounds_toArray, List.set_cons_zero, List.set_cons_succ]
                refine ord_take (v := ?_) (i := 15) (fuel := 12) (by simp; rfl) (by kernel_rfl) (by kernel_rfl) (by kernel_rfl) (Or.inl ⟨by rfl, fun w' hSw => ?_⟩) HB3.out ?_
                rotate_left
                · go_simp
                  all_goals with_reducible rfl
                simp only [Act.put, List.setIfInBounds_toArray, List.set_cons_zero, List.set_cons_succ]
                refine ord_take (v := ?_) (i := 16) (fuel := 11) (by simp; rfl) (by kernel_rfl) (by kernel_rfl) (by kernel_rfl) (Or.inl ⟨by rfl, fun w' hSw => ?_⟩) HB3.out ?_
                rotate_left
                · go_simp
                  all_goals with_reducible rfl
                simp only [Act.put, List.setIfInBounds_toArray, List.set_cons_zero, List.set_cons_succ]
                refine ord_take (v := ?_) (i := 17) (fuel := 10) (by simp; rfl) (by kernel_rfl) (by kernel_rfl) (by kernel_rfl) (Or.inl ⟨by rfl, fun w' hSw => ?_⟩) HB3.out ?_
                rotate_left
                · go_simp
                  all_goals with_reducible rfl
                simp only [Act.put, List.setIfInBounds_toArray, List.set_cons_zero, List.set_cons_succ]
                refine ord_take (v := ?_) (i := 18) (fuel := 9) (by simp; rfl) (by kernel_rfl) (by kernel_rfl) (by kernel_rfl) (Or.inl ⟨by rfl, fun w' hSw => ?_⟩) HB3.out ?_
                rotate_left
                · go_simp
                  all_goals with_reducible rfl
                simp only [Act.put, List.setIfInBounds_toArray, List.set_cons_zero, List.set_cons_succ]
                refine ord_take (v := ?_) (i := 19) (fuel := 8) (by simp; rfl) (by kernel_rfl) (by kernel_rfl) (by kernel_rfl) (Or.inl ⟨by rfl, fun w' hSw => ?_⟩) HB3.out ?_
                rotate_left
                · go_simp
                  all_goals with_reducible rfl
                simp only [Act.put, List.setIfInBounds_toArray, List.set_cons_zero, List.set_cons_succ]
                refine ord_take (v := ?_) (i := 20) (fuel := 7) (by simp; rfl) (by kernel_rfl) (by kernel_rfl) (by kernel_rfl) (Or.inl ⟨by rfl, fun w' hSw => ?_⟩) HB3.out ?_
                rotate_left
                · go_simp
                  all_goals with_reducible rfl
                simp only [Act.put, List.setIfInBounds_toArray, List.set_cons_zero, List.set_cons_succ]
                refine ord_take (v := ?_) (i := 21) (fuel := 6) (by simp; rfl) (by kernel_rfl) (by kernel_rfl) (by kernel_rfl) (Or.inl ⟨by rfl, fun w' hSw => ?_⟩) HB3.out ?_
                rotate_left
                · go_simp
                  all_goals with_reducible rfl
                simp only [Act.put, List.setIfInBounds_toArray, List.set_cons_zero, List.set_cons_succ]
                refine ord_take (v := ?_) (i := 22) (fuel := 5) (by simp; rfl) (by kernel_rfl) (by kernel_rfl) (by kernel_rfl) (Or.inl ⟨by rfl, fun w' hSw => ?_⟩) HB3.out ?_
                rotate_left
                · go_simp
                  all_goals with_reducible rfl
                simp only [Act.put, List.setIfInBounds_toArray, List.set_cons_zero, List.set_cons_succ]
                refine ord_take (v := ?_) (i := 23) (fuel := 4) (by simp; rfl) (by kernel_rfl) (by kernel_rfl) (by kernel_rfl) (Or.inl ⟨by rfl, fun w' hSw => ?_⟩) HB3.out ?_
                rotate_left
                · go_simp
                  all_goals with_reducible rfl
                simp only [Act.put, List.setIfInBounds_toArray, List.set_cons_zero, List.set_cons_succ]
                refine ord_take (v := undef) (i := 24) (fuel := 3) (by simp; rfl) (by kernel_rfl) (by kernel_rfl) (by kernel_rfl) (Or.inr ⟨by rfl, rfl⟩) HB3.out ?_
                simp only [Act.put, List.setIfInBounds_toArray, List.set_cons_zero, List.set_cons_succ]
                refine ord_take (v := undef) (i := 25) (fuel := 2) (by simp; rfl) (by kernel_rfl) (by kernel_rfl) (by kernel_rfl) (Or.inr ⟨by rfl, rfl⟩) HB3.out ?_
                simp only [Act.put, List.setIfInBounds_toArray, List.set_cons_zero, List.set_cons_succ]
                refine ord_take (v := undef) (i := 26) (fuel := 1) (by simp; rfl) (by kernel_rfl) (by kernel_rfl) (by kernel_rfl) (Or.inr ⟨by rfl, rfl⟩) HB3.out ?_
                simp only [Act.put, List.setIfInBounds_toArray, List.set_cons_zero, List.set_cons_succ]
                refine ord_take (v := ?_) (i := 27) (fuel := 0) (by simp; rfl) (by kernel_rfl) (by kernel_rfl) (by kernel_rfl) (Or.inl ⟨by rfl, fun w' hSw => ?_⟩) HB3.out ?_
                rotate_left
                · go_simp
                  all_goals with_reducible rfl
                simp only [Act.put, List.setIfInBounds_toArray, List.set_cons_zero, List.set_cons_succ]
                refine ord_done (by kernel_rfl) ?_ _
                go_wp2_with fail
                go_meet
                case rel => exact ⟨rfl, HB3.out⟩
              · obtain rfl : R = none := by rw [← HRM.out, ht]
                have hm0' : (0 : Int) < (m2 : Int) := by omega
                clear ht
                refine ord_take (v := ?_) (i := 13) (fuel := 14) (by simp; rfl) (by kernel_rfl) (by kernel_rfl) (by kernel_rfl) (Or.inl ⟨by rfl, fun w' hSw => ?_⟩) HB3.out ?_
                rotate_left
                · go_simp
                  all_goals with_reducible rfl
                simp only [Act.put, List.setIfInBounds_toArray, List.set_cons_zero, List.set_cons_succ]
                refine ord_take (v := ?_) (i := 14) (fuel := 13) (by simp; rfl) (by kernel_rfl) (by kernel_rfl) (by kernel_rfl) (Or.inl ⟨by rfl, fun w' hSw => ?_⟩) HB3.out ?_
                rotate_left
                · go_simp
                  all_goals with_reducible rfl
                simp only [Act.put, List.setIfInBounds_toArray, List.set_cons_zero, List.set_cons_succ]
                refine ord_take (v := ?_) (i := 15) (fuel := 12) (by simp; rfl) (by kernel_rfl) (by kernel_rfl) (by kernel_rfl) (Or.inl ⟨by rfl, fun w' hSw => ?_⟩) HB3.out ?_
                rotate_left
                · go_simp
                  all_goals with_reducible rfl
                simp only [Act.put, List.setIfInBounds_toArray, List.set_cons_zero, List.set_cons_succ]
                refine ord_take (v := ?_) (i := 16) (fuel := 11) (by simp; rfl) (by kernel_rfl) (by kernel_rfl) (by kernel_rfl) (Or.inl ⟨by rfl, fun w' hSw => ?_⟩) HB3.out ?_
                rotate_left
                · go_simp
                  all_goals with_reducible rfl
                simp only [Act.put, List.setIfInBounds_toArray, List.set_cons_zero, List.set_cons_succ]
                refine ord_take (v := ?_) (i := 17) (fuel := 10) (by simp; rfl) (by kernel_rfl) (by kernel_rfl) (by kernel_rfl) (Or.inl ⟨by rfl, fun w' hSw => ?_⟩) HB3.out ?_
                rotate_left
                · go_simp
                  all_goals with_reducible rfl
                simp only [Act.put, List.setIfInBounds_toArray, List.set_cons_zero, List.set_cons_succ]
                refine ord_take (v := ?_) (i := 18) (fuel := 9) (by simp; rfl) (by kernel_rfl) (by kernel_rfl) (by kernel_rfl) (Or.inl ⟨by rfl, fun w' hSw => ?_⟩) HB3.out ?_
                rotate_left
                · go_simp
                  all_goals with_reducible rfl
                simp only [Act.put, List.setIfInBounds_toArray, List.set_cons_zero, List.set_cons_succ]
                refine ord_take (v := ?_) (i := 19) (fuel := 8) (by simp; rfl) (by kernel_rfl) (by kernel_rfl) (by kernel_rfl) (Or.inl ⟨by rfl, fun w' hSw => ?_⟩) HB3.out ?_
                rotate_left
                · go_simp
                  all_goals with_reducible rfl
                simp only [Act.put, List.setIfInBounds_toArray, List.set_cons_zero, List.set_cons_succ]
                refine ord_take (v := ?_) (i := 20) (fuel := 7) (by simp; rfl) (by kernel_rfl) (by kernel_rfl) (by kernel_rfl) (Or.inl ⟨by rfl, fun w' hSw => ?_⟩) HB3.out ?_
                rotate_left
                · go_simp
                  all_goals with_reducible rfl
                simp only [Act.put, List.setIfInBounds_toArray, List.set_cons_zero, List.set_cons_succ]
                refine ord_take (v := ?_) (i := 21) (fuel := 6) (by simp; rfl) (by kernel_rfl) (by kernel_rfl) (by kernel_rfl) (Or.inl ⟨by rfl, fun w' hSw => ?_⟩) HB3.out ?_
                rotate_left
                · go_simp
                  all_goals with_reducible rfl
                simp only [Act.put, List.setIfInBounds_toArray, List.set_cons_zero, List.set_cons_succ]
                refine ord_take (v := ?_) (i := 22) (fuel := 5) (by simp; rfl) (by kernel_rfl) (by kernel_rfl) (by kernel_rfl) (Or.inl ⟨by rfl, fun w' hSw => ?_⟩) HB3.out ?_
                rotate_left
                · go_simp
                  all_goals with_reducible rfl
                simp only [Act.put, List.setIfInBounds_toArray, List.set_cons_zero, List.set_cons_succ]
                refine ord_take (v := ?_) (i := 23) (fuel := 4) (by simp; rfl) (by kernel_rfl) (by kernel_rfl) (by kernel_rfl) (Or.inl ⟨by rfl, fun w' hSw => ?_⟩) HB3.out ?_
                rotate_left
                · go_simp
                  all_goals with_reducible rfl
                simp only [Act.put, List.setIfInBounds_toArray, List.set_cons_zero, List.set_cons_succ]
                refine ord_take (v := ?_) (i := 24) (fuel := 3) (by simp; rfl) (by kernel_rfl) (by kernel_rfl) (by kernel_rfl) (Or.inl ⟨by rfl, fun w' hSw => ?_⟩) HB3.out ?_
                rotate_left
                · go_simp
                  all_goals with_reducible rfl
                simp only [Act.put, List.setIfInBounds_toArray, List.set_cons_zero, List.set_cons_succ]
                refine ord_take (v := ?_) (i := 25) (fuel := 2) (by simp; rfl) (by kernel_rfl) (by kernel_rfl) (by kernel_rfl) (Or.inl ⟨by rfl, fun w' hSw => ?_⟩) HB3.out ?_
                rotate_left
                · go_simp
                  all_goals with_reducible rfl
                simp only [Act.put, List.setIfInBounds_toArray, List.set_cons_zero, List.set_cons_succ]
                refine ord_take (v := ?_) (i := 26) (fuel := 1) (by simp; rfl) (by kernel_rfl) (by kernel_rfl) (by kernel_rfl) (Or.inl ⟨by rfl, fun w' hSw => ?_⟩) HB3.out ?_
                rotate_left
                · go_simp
                  all_goals with_reducible rfl
                simp only [Act.put, List.setIfInBounds_toArray, List.set_cons_zero, List.set_cons_succ]
                refine ord_take (v := ?_) (i := 27) (fuel := 0) (by simp; rfl) (by kernel_rfl) (by kernel_rfl) (by kernel_rfl) (Or.inl ⟨by rfl, fun w' hSw => ?_⟩) HB3.out ?_
                rotate_left
                · go_simp
                  all_goals with_reducible rfl
                simp only [Act.put, List.setIfInBounds_toArray, List.set_cons_zero, List.set_cons_succ]
                refine ord_done (by kernel_rfl) ?_ _
                go_wp2_with fail
                go_meet
                case rel => exact ⟨rfl, HB3.out⟩
              · obtain rfl : R = some (⟨sq, bd⟩, 10 + m) := by rw [← HRM.out, ht]
                clear ht
                refine ord_take (v := ?_) (i := 13) (fuel := 14) (by simp; rfl) (by kernel_rfl) (by kernel_rfl) (by kernel_rfl) (Or.inl ⟨by rfl, fun w' hSw => ?_⟩) HB3.out ?_
                rotate_left
                · go_simp
                  all_goals with_reducible rfl
                simp only [Act.put, List.setIfInBounds_toArray, List.set_cons_zero, List.set_cons_succ]
                refine ord_take (v := ?_) (i := 14) (fuel := 13) (by simp; rfl) (by kernel_rfl) (by kernel_rfl) (by kernel_rfl) (Or.inl ⟨by rfl, fun w' hSw => ?_⟩) HB3.out ?_
                rotate_left
                · go_simp
                  all_goals with_reducible rfl
                simp only [Act.put, List.setIfInBounds_toArray, List.set_cons_zero, List.set_cons_succ]
                refine ord_take (v := ?_) (i := 15) (fuel := 12) (by simp; rfl) (by kernel_rfl) (by kernel_rfl) (by kernel_rfl) (Or.inl ⟨by rfl, fun w' hSw => ?_⟩) HB3.out ?_
                rotate_left
                · go_simp
                  all_goals with_reducible rfl
                simp only [Act.put, List.setIfInBounds_toArray, List.set_cons_zero, List.set_cons_succ]
                refine ord_take (v := ?_) (i := 16) (fuel := 11) (by simp; rfl) (by kernel_rfl) (by kernel_rfl) (by kernel_rfl) (Or.inl ⟨by rfl, fun w' hSw => ?_⟩) HB3.out ?_
                rotate_left
                · go_simp
                  all_goals with_reducible rfl
                simp only [Act.put, List.setIfInBounds_toArray, List.set_cons_zero, List.set_cons_succ]
                refine ord_take (v := ?_) (i := 17) (fuel := 10) (by simp; rfl) (by kernel_rfl) (by kernel_rfl) (by kernel_rfl) (Or.inl ⟨by rfl, fun w' hSw => ?_⟩) HB3.out ?_
                rotate_left
                · go_simp
                  all_goals with_reducible rfl
                simp only [Act.put, List.setIfInBounds_toArray, List.set_cons_zero, List.set_cons_succ]
                refine ord_take (v := ?_) (i := 18) (fuel := 9) (by simp; rfl) (by kernel_rfl) (by kernel_rfl) (by kernel_rfl) (Or.inl ⟨by rfl, fun w' hSw => ?_⟩) HB3.out ?_
                rotate_left
                · go_simp
                  all_goals with_reducible rfl
                simp only [Act.put, List.setIfInBounds_toArray, List.set_cons_zero, List.set_cons_succ]
                refine ord_take (v := ?_) (i := 19) (fuel := 8) (by simp; rfl) (by kernel_rfl) (by kernel_rfl) (by kernel_rfl) (Or.inl ⟨by rfl, fun w' hSw => ?_⟩) HB3.out ?_
                rotate_left
                · go_simp
                  all_goals with_reducible rfl
                simp only [Act.put, List.setIfInBounds_toArray, List.set_cons_zero, List.set_cons_succ]
                refine ord_take (v := ?_) (i := 20) (fuel := 7) (by simp; rfl) (by kernel_rfl) (by kernel_rfl) (by kernel_rfl) (Or.inl ⟨by rfl, fun w' hSw => ?_⟩) HB3.out ?_
                rotate_left
                · go_simp
                  all_goals with_reducible rfl
                simp only [Act.put, List.setIfInBounds_toArray, List.set_cons_zero, List.set_cons_succ]
                refine ord_take (v := ?_) (i := 21) (fuel := 6) (by simp; rfl) (by kernel_rfl) (by kernel_rfl) (by kernel_rfl) (Or.inl ⟨by rfl, fun w' hSw => ?_⟩) HB3.out ?_
                rotate_left
                · go_simp
                  all_goals with_reducible rfl
                simp only [Act.put, List.setIfInBounds_toArray, List.set_cons_zero, List.set_cons_succ]
                refine ord_take (v := ?_) (i := 22) (fuel := 5) (by simp; rfl) (by kernel_rfl) (by kernel_rfl) (by kernel_rfl) (Or.inl ⟨by rfl, fun w' hSw => ?_⟩) HB3.out ?_
                rotate_left
                · go_simp
                  all_goals with_reducible rfl
                simp only [Act.put, List.setIfInBounds_toArray, List.set_cons_zero, List.set_cons_succ]
                refine ord_take (v := ?_) (i := 23) (fuel := 4) (by simp; rfl) (by kernel_rfl) (by kernel_rfl) (by kernel_rfl) (Or.inl ⟨by rfl, fun w' hSw => ?_⟩) HB3.out ?_
                rotate_left
                · go_simp
                  all_goals with_reducible rfl
                simp only [Act.put, List.setIfInBounds_toArray, List.set_cons_zero, List.set_cons_succ]
                refine ord_take (v := ?_) (i := 24) (fuel := 3) (by simp; rfl) (by kernel_rfl) (by kernel_rfl) (by kernel_rfl) (Or.inl ⟨by rfl, fun w' hSw => ?_⟩) HB3.out ?_
                rotate_left
                · go_simp
                  all_goals with_reducible rfl
                simp only [Act.put, List.setIfInBounds_toArray, List.set_cons_zero, List.set_cons_succ]
                refine ord_take (v := ?_) (i := 25) (fuel := 2) (by simp; rfl) (by kernel_rfl) (by kernel_rfl) (by kernel_rfl) (Or.inl ⟨by rfl, fun w' hSw => ?_⟩) HB3.out ?_
                rotate_left
                · go_simp
                  all_goals with_reducible rfl
                simp only [Act.put, List.setIfInBounds_toArray, List.set_cons_zero, List.set_cons_succ]
                refine ord_take (v := ?_) (i := 26) (fuel := 1) (by simp; rfl) (by kernel_rfl) (by kernel_rfl) (by kernel_rfl) (Or.inl ⟨by rfl, fun w' hSw => ?_⟩) HB3.out ?_
                rotate_left
                · go_simp
                  all_goals with_reducible rfl
                simp only [Act.put, List.setIfInBounds_toArray, List.set_cons_zero, List.set_cons_succ]
                refine ord_take (v := ?_) (i := 27) (fuel := 0) (by simp; rfl) (by kernel_rfl) (by kernel_rfl) (by kernel_rfl) (Or.inl ⟨by rfl, fun w' hSw => ?_⟩) HB3.out ?_
                rotate_left
                · go_simp
                  all_goals with_reducible rfl
                simp only [Act.put, List.setIfInBounds_toArray, List.set_cons_zero, List.set_cons_succ]
                refine ord_done (by kernel_rfl) ?_ _
                go_wp2_with fail
                go_meet
                case rel => exact ⟨rfl, HB3.out⟩
        case rest =>
          as_aux_lemma =>
          obtain ⟨rfl, hb⟩ := hcut
          obtain ⟨w4, rfl⟩ : ∃ W : World, W = wc := ⟨_, rfl⟩
          have HK4 := Lib.hid (HK2.out.below hb HK2.out.lt)
          have HB4 := Lib.hid (HB2.out.trans (hb.mono HB2.out.size))
          clear hb HK2 HB2
          have hk1 := HK4.out.lt
          obtain ⟨lk, x0, x1⟩ := blk2 HK4.out
          have f0 := HK4.out.frozen 0
          have f1 := HK4.out.frozen 1
          cases hRR : R with
          | none =>
            rw [hRR] at HRR
            subst hRR
            go_wp2
            obtain ⟨p0, p1⟩ := rec_end HK4.out (.int .i64 0) (.string ⟨#[]⟩)
            exact bodyPost_ret (v := whV none) (by simp [whV, results, Try.results40, go_sem, p0, p1]) rfl ⟨rfl, (HB4.out.setCell (p := ⟨k, 0, none⟩) HKk.out _).setCell (p := ⟨k, 1, none⟩) HKk.out _⟩
          | some rm =>
            obtain ⟨r, mm⟩ := rm
            obtain ⟨h8, h9⟩ : r = ⟨sq, bd⟩ ∧ mm = 10 + m := by
              have h10 := HRR.out.trans hRR
              split at h10
              · cases h10
              · split at h10
                · cases h10
                · rcases HCL.out with ⟨_, ht⟩ | ⟨_, _, ht⟩ | ⟨_, _, ht⟩
                  · rw [ht] at h10
                    cases h10
                  · rw [ht] at h10
                    cases h10
                  · rw [ht] at h10
                    cases h10
                    exact ⟨rfl, rfl⟩
            subst h8 h9
            subst hRR
            go_wp2
            obtain ⟨p0, p1⟩ := rec_end HK4.out (.int .i64 sq) (.string ⟨bd.toArray⟩)
            exact bodyPost_ret (v := whV (some (⟨sq, bd⟩, 10 + m))) (by simp [whV, results, Try.results40, go_sem, p0, p1]) rfl ⟨rfl, (HB4.out.setCell (p := ⟨k, 0, none⟩) HKk.out _).setCell (p := ⟨k, 1, none⟩) HKk.out _⟩
  · as_aux_lemma =>
    obtain rfl : R = none := by rw [← hR, if_pos (.inl (by rw [hlast]; intro e; exact h6 (by rw [← HZ.out, e]; rfl)))]
    have hz3 : ((z : Int) == 255) = false := by simp; omega
    have hz4 : ((z : Int) != 255) = true := by simp; omega
    have hk1 := HK1.out.lt
    obtain ⟨lk, x0, x1⟩ := blk2 HK1.out
    have f0 := HK1.out.frozen 0
    have f1 := HK1.out.frozen 1
    clear hlast hR hT hS HL1
    go_wp2
    obtain ⟨p0, p1⟩ := rec_end HK1.out (.int .i64 0) (.string ⟨#[]⟩)
    exact bodyPost_ret (v := whV none) (by simp [whV, results, Try.results40, go_sem, p0, p1]) rfl ⟨rfl, (HB1.out.setCell (p := ⟨k, 0, none⟩) HKk.out _).setCell (p := ⟨k, 1, none⟩) HKk.out _⟩
end Go.Proofs.Ytkjckdndkljeeaa

/- pyxref4.ReadText. -/
import Derived.Test.YtkjckdndkljeeaaPackS
import Derived.Test.YtkjckdndkljeeaaOrd
namespace Go.Proofs.Ytkjckdndkljeeaa
open Go.RowKit
def NoT (n : Nat) (l : List UInt8) : Prop := firstS l = 0 ∨ firstN l < 0 ∨ (n : Int) - firstS l < firstN l
def RdT (w : World) (n : Nat) (l : List UInt8) (e : Ending) (w' : World) : Prop :=
  (NoT n l ∧ e = .returned (.tuple #[.string ⟨#[]⟩, .slice none 0 0, .int .i64 2]) ∧ Below w.heap.size w w') ∨
  (∃ (s y : Nat) (A : Option Addr) (m c : Nat), firstS l = s ∧ firstN l = (y : Int) ∧ s ≠ 0 ∧ s + y ≤ n ∧ e = .returned (.tuple #[.string ⟨((l.drop s).take y).toArray⟩, .slice A m c, .int .i64 0]) ∧ Bs w' w'.heap.size A m c (l.drop (s + y)) ∧ Below w.heap.size w w')
set_option maxRecDepth 100000 in
set_option maxHeartbeats 3200000 in
theorem refReadText_c (A : Option Addr) (n c : Nat) (l : List UInt8) (w : World) (hl : Bs w w.heap.size A n c l) (hn : n ≤ 140737488355328) :
    Calls Try.prog 49 #[.slice A n c] w (RdT w n l) := by
  have hsl := firstS_le l
  rw [hl.len] at hsl
  obtain ⟨f1, f2⟩ := firstN_le l
  obtain ⟨x, hx⟩ : ∃ x, firstN l = x := ⟨_, rfl⟩
  obtain ⟨s, hs⟩ : ∃ s, firstS l = s := ⟨_, rfl⟩
  rw [hx] at f1 f2
  rw [hs] at hsl
  have HL := Lib.hid hl
  have HX := Lib.hid hx
  have HS := Lib.hid hs
  clear hl hx hs
  go_enter Try.func49, Try.ntmps49
  go_wp2_with fail
  refine (refRead_c A n c l _ HL.out hn).mono ?_
  rintro e w1 (⟨hz, rfl, rfl⟩ | ⟨hz, g, c1, rfl, ho, hb⟩)
  · have HZ := Lib.hid hz
    clear hz
    go_wp2
    go_ret3
    exact .inl ⟨.inl HZ.out, rfl, Below.refl _ _⟩
  · rw [HS.out] at ho hz
    rw [HX.out, HS.out]
    have HO1 := Lib.hid ho
    have HB1 := Lib.hid hb
    have h0 : s ≠ 0 := hz
    have hr1 := ho.room
    clear ho hb hz
    by_cases hneg : x < 0
    · go_wp2
      go_ret3
      exact .inl ⟨.inr (.inl (by rw [HX.out]; exact hneg)), rfl, HB1.out⟩
    · by_cases hbig : (n : Int) - s < x
      · have hneg' : 0 ≤ x := by omega
        have hb1 : ((n - s : Nat) : Int) < x := by omega
        go_wp2
        go_ret3
        exact .inl ⟨.inr (.inr (by rw [HX.out, HS.out]; exact hbig)), rfl, HB1.out⟩
      · obtain ⟨y, rfl⟩ := Int.eq_ofNat_of_zero_le (show 0 ≤ x by omega)
        have hle : s + y ≤ n := by omega
        have b1 : ¬ ((n - s : Nat) : Int) < (y : Int) := by omega
        have b1' : decide (n - s < y) = false := by simp; omega
        have b2 : (0 : Int) ≤ (y : Int) := by omega
        have b3 : (y : Int) ≤ (c1 : Int) := by omega
        have b4 : (y : Int) ≤ ((n - s : Nat) : Int) := by omega
        have HS0 : (convert 30 9 (.slice (some ⟨g, 0, none⟩) y c1)).run Try.prog w1.drew = .ok (.string ⟨((l.drop s).take y).toArray⟩) w1.drew := str_run ((HO1.out.bs.head (k := y) (by omega)).below (Below.refl _ _).drew)
        by_cases hc : c1 = y
        · have hm0 : n - s = y := by omega
          obtain rfl : y = c1 := hc.symm
          have HC := Lib.hid (show Bs w1 w1.heap.size (some ⟨g, 0, none⟩) 0 0 (l.drop (s + y)) by have := HO1.out.bs.cut_yes (k := y) (by omega) rfl; rw [hm0, Nat.sub_self, List.drop_drop] at this; exact this)
          go_upto_region 4 with fail
          refine wp_region_ord (S := fun W => (convert 30 9 (.slice (some ⟨g, 0, none⟩) y y)).run Try.prog W = .ok (.string ⟨((l.drop s).take y).toArray⟩) W) (by kernel_rfl) ?_
          refine ord_take (v := ?_) (i := 0) (fuel := 9) (by simp; rfl) (by kernel_rfl) (by kernel_rfl) (by kernel_rfl) (Or.inl ⟨by rfl, fun w' hSw => ?_⟩) HS0 ?_
          rotate_left
          · go_simp
            all_goals with_reducible rfl
          simp only [Act.put, List.setIfInBounds_toArray, List.set_cons_zero, List.set_cons_succ]
          refine ord_take (v := ?_) (i := 1) (fuel := 8) (by simp; rfl) (by kernel_rfl) (by kernel_rfl) (by kernel_rfl) (Or.inl ⟨by rfl, fun w' hSw => ?_⟩) HS0 ?_
          rotate_left
          · go_simp
            all_goals with_reducible rfl
          simp only [Act.put, List.setIfInBounds_toArray, List.set_cons_zero, List.set_cons_succ]
          refine ord_take (v := ?_) (i := 2) (fuel := 7) (by simp; rfl) (by kernel_rfl) (by kernel_rfl) (by kernel_rfl) (Or.inl ⟨by rfl, fun w' hSw => ?_⟩) HS0 ?_
          rotate_left
          · go_simp
            all_goals with_reducible rfl
          simp only [Act.put, List.setIfInBounds_toArray, List.set_cons_zero, List.set_cons_succ]
          refine ord_take (v := ?_) (i := 3) (fuel := 6) (by simp; rfl) (by kernel_rfl) (by kernel_rfl) (by kernel_rfl) (Or.inl ⟨by rfl, fun w' hSw => ?_⟩) HS0 ?_
          rotate_left
          · have hq := hSw
            dsimp only at hq
            go_simp
            all_goals with_reducible rfl
          simp only [Act.put, List.setIfInBounds_toArray, List.set_cons_zero, List.set_cons_succ]
          refine ord_take (v := ?_) (i := 4) (fuel := 5) (by simp; rfl) (by kernel_rfl) (by kernel_rfl) (by kernel_rfl) (Or.inl ⟨by rfl, fun w' hSw => ?_⟩) HS0 ?_
          rotate_left
          · go_simp
            all_goals with_reducible rfl
          simp only [Act.put, List.setIfInBounds_toArray, List.set_cons_zero, List.set_cons_succ]
          refine ord_take (v := ?_) (i := 5) (fuel := 4) (by simp; rfl) (by kernel_rfl) (by kernel_rfl) (by kernel_rfl) (Or.inl ⟨by rfl, fun w' hSw => ?_⟩) HS0 ?_
          rotate_left
          · go_simp
            all_goals with_reducible rfl
          simp only [Act.put, List.setIfInBounds_toArray, List.set_cons_zero, List.set_cons_succ]
          refine ord_take (v := ?_) (i := 6) (fuel := 3) (by simp; rfl) (by kernel_rfl) (by kernel_rfl) (by kernel_rfl) (Or.inl ⟨by rfl, fun w' hSw => ?_⟩) HS0 ?_
          rotate_left
          · go_simp
            all_goals with_reducible rfl
          simp only [Act.put, List.setIfInBounds_toArray, List.set_cons_zero, List.set_cons_succ]
          refine ord_take (v := ?_) (i := 7) (fuel := 2) (by simp; rfl) (by kernel_rfl) (by kernel_rfl) (by kernel_rfl) (Or.inl ⟨by rfl, fun w' hSw => ?_⟩) HS0 ?_
          rotate_left
          · go_simp
            all_goals with_reducible rfl
          simp only [Act.put, List.setIfInBounds_toArray, List.set_cons_zero, List.set_cons_succ]
          refine ord_take (v := ?_) (i := 8) (fuel := 1) (by simp; rfl) (by kernel_rfl) (by kernel_rfl) (by kernel_rfl) (Or.inl ⟨by rfl, fun w' hSw => ?_⟩) HS0 ?_
          rotate_left
          · go_simp
            all_goals with_reducible rfl
          simp only [Act.put, List.setIfInBounds_toArray, List.set_cons_zero, List.set_cons_succ]
          refine ord_take (v := ?_) (i := 9) (fuel := 0) (by simp; rfl) (by kernel_rfl) (by kernel_rfl) (by kernel_rfl) (Or.inl ⟨by rfl, fun w' hSw => ?_⟩) HS0 ?_
          rotate_left
          · go_simp
            all_goals with_reducible rfl
          simp only [Act.put, List.setIfInBounds_toArray, List.set_cons_zero, List.set_cons_succ]
          refine ord_done (by kernel_rfl) ?_ _
          go_wp2
          go_ret3
          exact .inr ⟨s, y, (some ⟨g, 0, none⟩), 0, 0, HS.out, HX.out, h0, hle, rfl, HC.out.below (Below.refl _ _).drew, HB1.out.drew⟩
        · have hm0 := hc
          have HC := Lib.hid (show Bs w1 w1.heap.size (some ⟨g, y, none⟩) (n - s - y) (c1 - y) (l.drop (s + y)) by have := HO1.out.bs.cut_no (k := y) (by omega) hc; rw [List.drop_drop] at this; simpa [Addr.add_lit] using this)
          go_upto_region 4 with fail
          refine wp_region_ord (S := fun W => (convert 30 9 (.slice (some ⟨g, 0, none⟩) y c1)).run Try.prog W = .ok (.string ⟨((l.drop s).take y).toArray⟩) W) (by kernel_rfl) ?_
          refine ord_take (v := ?_) (i := 0) (fuel := 9) (by simp; rfl) (by kernel_rfl) (by kernel_rfl) (by kernel_rfl) (Or.inl ⟨by rfl, fun w' hSw => ?_⟩) HS0 ?_
          rotate_left
          · go_simp
            all_goals with_reducible rfl
          simp only [Act.put, List.setIfInBounds_toArray, List.set_cons_zero, List.set_cons_succ]
          refine ord_take (v := ?_) (i := 1) (fuel := 8) (by simp; rfl) (by kernel_rfl) (by kernel_rfl) (by kernel_rfl) (Or.inl ⟨by rfl, fun w' hSw => ?_⟩) HS0 ?_
          rotate_left
          · go_simp
            all_goals with_reducible rfl
          simp only [Act.put, List.setIfInBounds_toArray, List.set_cons_zero, List.set_cons_succ]
          refine ord_take (v := ?_) (i := 2) (fuel := 7) (by simp; rfl) (by kernel_rfl) (by kernel_rfl) (by kernel_rfl) (Or.inl ⟨by rfl, fun w' hSw => ?_⟩) HS0 ?_
          rotate_left
          · go_simp
            all_goals with_reducible rfl
          simp only [Act.put, List.setIfInBounds_toArray, List.set_cons_zero, List.set_cons_succ]
          refine ord_take (v := ?_) (i := 3) (fuel := 6) (by simp; rfl) (by kernel_rfl) (by kernel_rfl) (by kernel_rfl) (Or.inl ⟨by rfl, fun w' hSw => ?_⟩) HS0 ?_
          rotate_left
          · have hq := hSw
            dsimp only at hq
            go_simp
            all_goals with_reducible rfl
          simp only [Act.put, List.setIfInBounds_toArray, List.set_cons_zero, List.set_cons_succ]
          refine ord_take (v := ?_) (i := 4) (fuel := 5) (by simp; rfl) (by kernel_rfl) (by kernel_rfl) (by kernel_rfl) (Or.inl ⟨by rfl, fun w' hSw => ?_⟩) HS0 ?_
          rotate_left
          · go_simp
            all_goals with_reducible rfl
          simp only [Act.put, List.setIfInBounds_toArray, List.set_cons_zero, List.set_cons_succ]
          refine ord_take (v := ?_) (i := 5) (fuel := 4) (by simp; rfl) (by kernel_rfl) (by kernel_rfl) (by kernel_rfl) (Or.inl ⟨by rfl, fun w' hSw => ?_⟩) HS0 ?_
          rotate_left
          · go_simp
            all_goals with_reducible rfl
          simp only [Act.put, List.setIfInBounds_toArray, List.set_cons_zero, List.set_cons_succ]
          refine ord_take (v := ?_) (i := 6) (fuel := 3) (by simp; rfl) (by kernel_rfl) (by kernel_rfl) (by kernel_rfl) (Or.inl ⟨by rfl, fun w' hSw => ?_⟩) HS0 ?_
          rotate_left
          · go_simp
            all_goals with_reducible rfl
          simp only [Act.put, List.setIfInBounds_toArray, List.set_cons_zero, List.set_cons_succ]
          refine ord_take (v := ?_) (i := 7) (fuel := 2) (by simp; rfl) (by kernel_rfl) (by kernel_rfl) (by kernel_rfl) (Or.inl ⟨by rfl, fun w' hSw => ?_⟩) HS0 ?_
          rotate_left
          · go_simp
            all_goals with_reducible rfl
          simp only [Act.put, List.setIfInBounds_toArray, List.set_cons_zero, List.set_cons_succ]
          refine ord_take (v := ?_) (i := 8) (fuel := 1) (by simp; rfl) (by kernel_rfl) (by kernel_rfl) (by kernel_rfl) (Or.inl ⟨by rfl, fun w' hSw => ?_⟩) HS0 ?_
          rotate_left
          · go_simp
            all_goals with_reducible rfl
          simp only [Act.put, List.setIfInBounds_toArray, List.set_cons_zero, List.set_cons_succ]
          refine ord_take (v := ?_) (i := 9) (fuel := 0) (by simp; rfl) (by kernel_rfl) (by kernel_rfl) (by kernel_rfl) (Or.inl ⟨by rfl, fun w' hSw => ?_⟩) HS0 ?_
          rotate_left
          · go_simp
            all_goals with_reducible rfl
          simp only [Act.put, List.setIfInBounds_toArray, List.set_cons_zero, List.set_cons_succ]
          refine ord_done (by kernel_rfl) ?_ _
          go_wp2
          go_ret3
          exact .inr ⟨s, y, (some ⟨g, y, none⟩), (n - s - y), (c1 - y), HS.out, HX.out, h0, hle, rfl, HC.out.below (Below.refl _ _).drew, HB1.out.drew⟩
end Go.Proofs.Ytkjckdndkljeeaa

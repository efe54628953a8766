/- The walk of MarkSteps. -/
import Derived.Test.YtinoppcccpbmkaaMarkE
namespace Go.Proofs.Ytinoppcccpbmkaa
open Go.RowKit
theorem Bs.cut_y {w : World} {B n c k : Nat} {A : Option Addr} {l : List UInt8} (h : Bs w B A n c l) (hk : k ≤ n) (e : c = k) : Bs w B A (n - k) (c - k) (l.drop k) := by
  have := h.cut hk
  rwa [if_pos e] at this
theorem Bs.cut_n {w : World} {B n c k : Nat} {A : Option Addr} {l : List UInt8} (h : Bs w B A n c l) (hk : k ≤ n) (e : ¬ c = k) : Bs w B (A.map (·.add k)) (n - k) (c - k) (l.drop k) := by
  have := h.cut hk
  rwa [if_neg e] at this
set_option maxRecDepth 100000 in
set_option maxHeartbeats 6400000 in
theorem markSteps_c (s g h c d : Nat) (A : Option Addr) (n q : Nat) (l : List UInt8) (cut : Int) (w : World) (hs : s < 18446744073709551616) (hg : g < 18446744073709551616) (hh : h < 18446744073709551616) (hc : c < 256) (hd : d < 256) (hl : Bs w w.heap.size A n q l) (hq : q ≤ 140737488351232) :
    Calls Try.prog 6 #[.int .u64 (s : Int), .slice A n q, .int .i64 cut, .int .u64 (g : Int), .int .u64 (h : Int), .int .u8 (c : Int), .int .u8 (d : Int)] w fun e w' => e = .returned (.bool true) ∧ Below w.heap.size w w' := by
  have hnq := hl.room
  have hn : n ≤ 140737488351232 := by omega
  have hn2 : n ≤ 281474976710656 := by omega
  have HL := Lib.hid hl
  obtain ⟨z, hz⟩ : ∃ z : Int, (sumM s l : Int) = z := ⟨_, rfl⟩
  obtain ⟨S, hS⟩ : ∃ S : Int, (s : Int) = S := ⟨_, rfl⟩
  obtain ⟨G, hG⟩ : ∃ S : Int, (g : Int) = S := ⟨_, rfl⟩
  obtain ⟨H, hH⟩ : ∃ S : Int, (h : Int) = S := ⟨_, rfl⟩
  obtain ⟨C, hC⟩ : ∃ S : Int, (c : Int) = S := ⟨_, rfl⟩
  obtain ⟨D, hD⟩ : ∃ S : Int, (d : Int) = S := ⟨_, rfl⟩
  obtain ⟨z1, h1⟩ : ∃ z : Int, (stp g c : Int) = z := ⟨_, rfl⟩
  obtain ⟨z2, h2⟩ : ∃ z : Int, (stp h c : Int) = z := ⟨_, rfl⟩
  obtain ⟨z3, h3⟩ : ∃ z : Int, (stp g d : Int) = z := ⟨_, rfl⟩
  obtain ⟨β, b1, b2⟩ := beq_both (cast_iff (stp_left (c := c) hg hh hc))
  obtain ⟨γ, b3, b4⟩ := beq_both (cast_iff (stp_right hg hc hd))
  rw [h1, h2] at b1
  rw [h1, h3] at b3
  rw [hG, hH] at b2
  rw [hC, hD] at b4
  rw [hS, hG, hH, hC, hD]
  have HZ := Lib.hid hz
  have HS := Lib.hid hS
  have HG := Lib.hid hG
  have HH := Lib.hid hH
  have HCc := Lib.hid hC
  have HDd := Lib.hid hD
  have H1 := Lib.hid h1
  have H2 := Lib.hid h2
  have H3 := Lib.hid h3
  clear hl hz hS hG hH hC hD h1 h2 h3
  have HBd := Lib.hid (show Below w.heap.size w w.drew from (Below.refl _ _).drew)
  go_enter Try.func6, Try.ntmps6
  go_wp2_with fail
  (with_reducible refine (pickB cut ((n : Int) + 1) _ (by omega) (by omega)).mono ?_)
  rintro e w' ⟨k, hk, rfl, rfl⟩
  have hkn : k ≤ n := by omega
  have i2 : (0 : Int) ≤ (k : Int) := by omega
  have i3 : (k : Int) ≤ (n : Int) := by omega
  have i4 : (k : Int) ≤ (q : Int) := by omega
  have HF := Lib.hid (foldM_lt (l.take k) hs)
  have HZ2 := Lib.hid ((congrArg (fun x : Nat => (x : Int)) (sumM_cut s l k).symm).trans HZ.out)
  clear hk
  go_wp2
  go_loop [15, 29] (fun x i => SumRel k l s x i) (fun _ i => k - (intOf i).toNat)
  case atStart => exact ⟨0, by omega, by rw [← HS.out]; rfl, rfl⟩
  case round =>
    obtain ⟨j, hj, rfl, rfl⟩ := hrel
    by_cases hlt : j < k
    · obtain ⟨g1, o1, hjl, rfl, _, hcell⟩ := HL.out.at_ (show j < n by omega)
      have HFj := Lib.hid (foldM_lt (l.take j) hs)
      have HE := Lib.hid (foldM_at hjl s)
      have hlt' : (j : Int) < (k : Int) := by omega
      obtain ⟨x, hx⟩ : ∃ x : Nat, (l[j]'hjl).toNat = x := ⟨_, rfl⟩
      rw [hx] at hcell
      have hx256 : x < 256 := by rw [← hx]; exact u8_lt _
      have HX := Lib.hid hx
      clear hx
      go_wp2_with fail
      (with_reducible refine (step_c _ x _ _ HFj.out hx256 rfl).mono ?_)
      rintro e w' ⟨rfl, rfl⟩
      go_wp2
      go_round
      case rel => exact ⟨j + 1, by omega, by rw [HE.out, HX.out], by go_num⟩
      case measure => simp [intOf]; omega
    · obtain rfl : j = k := by omega
      by_cases hqk : q = j
      · have HC := Lib.hid (HL.out.cut_y hkn hqk)
        subst hqk
        obtain rfl : n = q := by omega
        rw [Nat.sub_self] at HC
        go_upto_region 8 with fail
        refine wp_region_ord (S := fun W => Below w.heap.size w W) (by kernel_rfl) ?_
        refine ord_call (f := 7) (args := #[]) (w1 := w.drew) (i := 0) (fuel := 38) (by simp; rfl) (by kernel_rfl) (by rfl) ?_ ?_
        · go_simp
          all_goals with_reducible rfl
        refine (known5_c _).mono ?_
        rintro e w1 ⟨rfl, hb⟩
        have HB1 := Lib.hid (show Below w.heap.size w w1 from HBd.out.trans (hb.mono HBd.out.size))
        have HL1 := Lib.hid ((HL.out.below HB1.out).more HB1.out.size)
        have HC1 := Lib.hid ((HC.out.below HB1.out).more HB1.out.size)
        clear hb
        refine ⟨_, rfl, HB1.out, ?_⟩
        simp only [Act.put, List.setIfInBounds_toArray, List.set_cons_zero, List.set_cons_succ]
        refine ord_take (v := ?_) (i := 1) (fuel := 37) (by simp; rfl) (by kernel_rfl) (by kernel_rfl) (by kernel_rfl) (Or.inl ⟨by rfl, fun w' hSw => ?_⟩) HB1.out ?_
        rotate_left
        · go_simp
          all_goals with_reducible rfl
        simp only [Act.put, List.setIfInBounds_toArray, List.set_cons_zero, List.set_cons_succ]
        refine ord_take (v := ?_) (i := 2) (fuel := 36) (by simp; rfl) (by kernel_rfl) (by kernel_rfl) (by kernel_rfl) (Or.inl ⟨by rfl, fun w' hSw => ?_⟩) HB1.out ?_
        rotate_left
        · go_simp
          all_goals with_reducible rfl
        simp only [Act.put, List.setIfInBounds_toArray, List.set_cons_zero, List.set_cons_succ]
        refine ord_take (v := ?_) (i := 3) (fuel := 35) (by simp; rfl) (by kernel_rfl) (by kernel_rfl) (by kernel_rfl) (Or.inl ⟨by rfl, fun w' hSw => ?_⟩) HB1.out ?_
        rotate_left
        · go_simp
          all_goals with_reducible rfl
        simp only [Act.put, List.setIfInBounds_toArray, List.set_cons_zero, List.set_cons_succ]
        refine ord_take (v := ?_) (i := 5) (fuel := 34) (by simp; rfl) (by kernel_rfl) (by kernel_rfl) (by kernel_rfl) (Or.inl ⟨by rfl, fun w' hSw => ?_⟩) HB1.out ?_
        rotate_left
        · go_simp
          all_goals with_reducible rfl
        simp only [Act.put, List.setIfInBounds_toArray, List.set_cons_zero, List.set_cons_succ]
        refine ord_take (v := ?_) (i := 6) (fuel := 33) (by simp; rfl) (by kernel_rfl) (by kernel_rfl) (by kernel_rfl) (Or.inl ⟨by rfl, fun w' hSw => ?_⟩) HB1.out ?_
        rotate_left
        · go_simp
          all_goals with_reducible rfl
        simp only [Act.put, List.setIfInBounds_toArray, List.set_cons_zero, List.set_cons_succ]
        refine ord_take (v := ?_) (i := 7) (fuel := 32) (by simp; rfl) (by kernel_rfl) (by kernel_rfl) (by kernel_rfl) (Or.inl ⟨by rfl, fun w' hSw => ?_⟩) HB1.out ?_
        rotate_left
        · go_simp
          all_goals with_reducible rfl
        simp only [Act.put, List.setIfInBounds_toArray, List.set_cons_zero, List.set_cons_succ]
        refine ord_take (v := ?_) (i := 8) (fuel := 31) (by simp; rfl) (by kernel_rfl) (by kernel_rfl) (by kernel_rfl) (Or.inl ⟨by rfl, fun w' hSw => ?_⟩) HB1.out ?_
        rotate_left
        · go_simp
          all_goals with_reducible rfl
        simp only [Act.put, List.setIfInBounds_toArray, List.set_cons_zero, List.set_cons_succ]
        refine ord_call (f := 9) (args := #[.int .u64 S, .slice A n n]) (w1 := w1) (i := 4) (fuel := 30) (by simp; rfl) (by kernel_rfl) (by rfl) ?_ ?_
        · go_simp
          all_goals with_reducible rfl
        refine (sum_v S z s A n n l _ HS.out.symm hs HL1.out hn2 HZ.out).mono ?_
        rintro e w' ⟨rfl, rfl⟩
        refine ⟨_, rfl, HB1.out, ?_⟩
        simp only [Act.put, List.setIfInBounds_toArray, List.set_cons_zero, List.set_cons_succ]
        refine ord_call (f := 9) (args := #[.int .u64 (foldM s (l.take n) : Int), .slice A 0 0]) (w1 := w1) (i := 9) (fuel := 29) (by simp; rfl) (by kernel_rfl) (by rfl) ?_ ?_
        · go_simp
          all_goals with_reducible rfl
        refine (sum_v _ z (foldM s (l.take n)) _ _ _ (l.drop n) _ rfl HF.out HC1.out (by omega) HZ2.out).mono ?_
        rintro e w' ⟨rfl, rfl⟩
        refine ⟨_, rfl, HB1.out, ?_⟩
        simp only [Act.put, List.setIfInBounds_toArray, List.set_cons_zero, List.set_cons_succ]
        refine ord_take (v := ?_) (i := 10) (fuel := 28) (by simp; rfl) (by kernel_rfl) (by kernel_rfl) (by kernel_rfl) (Or.inl ⟨by rfl, fun w' hSw => ?_⟩) HB1.out ?_
        rotate_left
        · go_simp
          all_goals with_reducible rfl
        simp only [Act.put, List.setIfInBounds_toArray, List.set_cons_zero, List.set_cons_succ]
        refine ord_take (v := ?_) (i := 11) (fuel := 27) (by simp; rfl) (by kernel_rfl) (by kernel_rfl) (by kernel_rfl) (Or.inl ⟨by rfl, fun w' hSw => ?_⟩) HB1.out ?_
        rotate_left
        · go_simp
          all_goals with_reducible rfl
        simp only [Act.put, List.setIfInBounds_toArray, List.set_cons_zero, List.set_cons_succ]
        refine ord_take (v := ?_) (i := 12) (fuel := 26) (by simp; rfl) (by kernel_rfl) (by kernel_rfl) (by kernel_rfl) (Or.inl ⟨by rfl, fun w' hSw => ?_⟩) HB1.out ?_
        rotate_left
        · go_simp
          all_goals with_reducible rfl
        simp only [Act.put, List.setIfInBounds_toArray, List.set_cons_zero, List.set_cons_succ]
        refine ord_take (v := ?_) (i := 13) (fuel := 25) (by simp; rfl) (by kernel_rfl) (by kernel_rfl) (by kernel_rfl) (Or.inl ⟨by rfl, fun w' hSw => ?_⟩) HB1.out ?_
        rotate_left
        · go_simp
          all_goals with_reducible rfl
        simp only [Act.put, List.setIfInBounds_toArray, List.set_cons_zero, List.set_cons_succ]
        refine ord_take (v := ?_) (i := 14) (fuel := 24) (by simp; rfl) (by kernel_rfl) (by kernel_rfl) (by kernel_rfl) (Or.inl ⟨by rfl, fun w' hSw => ?_⟩) HB1.out ?_
        rotate_left
        · go_simp
          all_goals with_reducible rfl
        simp only [Act.put, List.setIfInBounds_toArray, List.set_cons_zero, List.set_cons_succ]
        refine ord_take (v := ?_) (i := 16) (fuel := 23) (by simp; rfl) (by kernel_rfl) (by kernel_rfl) (by kernel_rfl) (Or.inl ⟨by rfl, fun w' hSw => ?_⟩) HB1.out ?_
        rotate_left
        · go_simp
          all_goals with_reducible rfl
        simp only [Act.put, List.setIfInBounds_toArray, List.set_cons_zero, List.set_cons_succ]
        refine ord_take (v := ?_) (i := 17) (fuel := 22) (by simp; rfl) (by kernel_rfl) (by kernel_rfl) (by kernel_rfl) (Or.inl ⟨by rfl, fun w' hSw => ?_⟩) HB1.out ?_
        rotate_left
        · go_simp
          all_goals with_reducible rfl
        simp only [Act.put, List.setIfInBounds_toArray, List.set_cons_zero, List.set_cons_succ]
        refine ord_take (v := ?_) (i := 20) (fuel := 21) (by simp; rfl) (by kernel_rfl) (by kernel_rfl) (by kernel_rfl) (Or.inl ⟨by rfl, fun w' hSw => ?_⟩) HB1.out ?_
        rotate_left
        · go_simp
          all_goals with_reducible rfl
        simp only [Act.put, List.setIfInBounds_toArray, List.set_cons_zero, List.set_cons_succ]
        refine ord_take (v := ?_) (i := 21) (fuel := 20) (by simp; rfl) (by kernel_rfl) (by kernel_rfl) (by kernel_rfl) (Or.inl ⟨by rfl, fun w' hSw => ?_⟩) HB1.out ?_
        rotate_left
        · go_simp
          all_goals with_reducible rfl
        simp only [Act.put, List.setIfInBounds_toArray, List.set_cons_zero, List.set_cons_succ]
        refine ord_take (v := ?_) (i := 22) (fuel := 19) (by simp; rfl) (by kernel_rfl) (by kernel_rfl) (by kernel_rfl) (Or.inl ⟨by rfl, fun w' hSw => ?_⟩) HB1.out ?_
        rotate_left
        · go_simp
          all_goals with_reducible rfl
        simp only [Act.put, List.setIfInBounds_toArray, List.set_cons_zero, List.set_cons_succ]
        refine ord_call (f := 8) (args := #[.int .u64 G, .int .u8 C]) (w1 := w1) (i := 15) (fuel := 18) (by simp; rfl) (by kernel_rfl) (by rfl) ?_ ?_
        · go_simp
          all_goals with_reducible rfl
        refine (step_v G C z1 g c _ hg hc HG.out.symm HCc.out.symm H1.out).mono ?_
        rintro e w' ⟨rfl, rfl⟩
        refine ⟨_, rfl, HB1.out, ?_⟩
        simp only [Act.put, List.setIfInBounds_toArray, List.set_cons_zero, List.set_cons_succ]
        refine ord_call (f := 8) (args := #[.int .u64 H, .int .u8 C]) (w1 := w1) (i := 18) (fuel := 17) (by simp; rfl) (by kernel_rfl) (by rfl) ?_ ?_
        · go_simp
          all_goals with_reducible rfl
        refine (step_v H C z2 h c _ hh hc HH.out.symm HCc.out.symm H2.out).mono ?_
        rintro e w' ⟨rfl, rfl⟩
        refine ⟨_, rfl, HB1.out, ?_⟩
        simp only [Act.put, List.setIfInBounds_toArray, List.set_cons_zero, List.set_cons_succ]
        refine ord_take (v := ?_) (i := 19) (fuel := 16) (by simp; rfl) (by kernel_rfl) (by kernel_rfl) (by kernel_rfl) (Or.inl ⟨by rfl, fun w' hSw => ?_⟩) HB1.out ?_
        rotate_left
        · go_simp
          all_goals with_reducible rfl
        simp only [Act.put, List.setIfInBounds_toArray, List.set_cons_zero, List.set_cons_succ]
        refine ord_take (v := ?_) (i := 23) (fuel := 15) (by simp; rfl) (by kernel_rfl) (by kernel_rfl) (by kernel_rfl) (Or.inl ⟨by rfl, fun w' hSw => ?_⟩) HB1.out ?_
        rotate_left
        · go_simp
          all_goals with_reducible rfl
        simp only [Act.put, List.setIfInBounds_toArray, List.set_cons_zero, List.set_cons_succ]
        refine ord_take (v := ?_) (i := 24) (fuel := 14) (by simp; rfl) (by kernel_rfl) (by kernel_rfl) (by kernel_rfl) (Or.inl ⟨by rfl, fun w' hSw => ?_⟩) HB1.out ?_
        rotate_left
        · go_simp
          all_goals with_reducible rfl
        simp only [Act.put, List.setIfInBounds_toArray, List.set_cons_zero, List.set_cons_succ]
        refine ord_take (v := ?_) (i := 25) (fuel := 13) (by simp; rfl) (by kernel_rfl) (by kernel_rfl) (by kernel_rfl) (Or.inl ⟨by rfl, fun w' hSw => ?_⟩) HB1.out ?_
        rotate_left
        · go_simp
          all_goals with_reducible rfl
        simp only [Act.put, List.setIfInBounds_toArray, List.set_cons_zero, List.set_cons_succ]
        refine ord_take (v := ?_) (i := 26) (fuel := 12) (by simp; rfl) (by kernel_rfl) (by kernel_rfl) (by kernel_rfl) (Or.inl ⟨by rfl, fun w' hSw => ?_⟩) HB1.out ?_
        rotate_left
        · go_simp
          all_goals with_reducible rfl
        simp only [Act.put, List.setIfInBounds_toArray, List.set_cons_zero, List.set_cons_succ]
        refine ord_take (v := ?_) (i := 27) (fuel := 11) (by simp; rfl) (by kernel_rfl) (by kernel_rfl) (by kernel_rfl) (Or.inl ⟨by rfl, fun w' hSw => ?_⟩) HB1.out ?_
        rotate_left
        · go_simp
          all_goals with_reducible rfl
        simp only [Act.put, List.setIfInBounds_toArray, List.set_cons_zero, List.set_cons_succ]
        refine ord_take (v := ?_) (i := 29) (fuel := 10) (by simp; rfl) (by kernel_rfl) (by kernel_rfl) (by kernel_rfl) (Or.inl ⟨by rfl, fun w' hSw => ?_⟩) HB1.out ?_
        rotate_left
        · go_simp
          all_goals with_reducible rfl
        simp only [Act.put, List.setIfInBounds_toArray, List.set_cons_zero, List.set_cons_succ]
        refine ord_take (v := ?_) (i := 30) (fuel := 9) (by simp; rfl) (by kernel_rfl) (by kernel_rfl) (by kernel_rfl) (Or.inl ⟨by rfl, fun w' hSw => ?_⟩) HB1.out ?_
        rotate_left
        · go_simp
          all_goals with_reducible rfl
        simp only [Act.put, List.setIfInBounds_toArray, List.set_cons_zero, List.set_cons_succ]
        refine ord_take (v := ?_) (i := 33) (fuel := 8) (by simp; rfl) (by kernel_rfl) (by kernel_rfl) (by kernel_rfl) (Or.inl ⟨by rfl, fun w' hSw => ?_⟩) HB1.out ?_
        rotate_left
        · go_simp
          all_goals with_reducible rfl
        simp only [Act.put, List.setIfInBounds_toArray, List.set_cons_zero, List.set_cons_succ]
        refine ord_take (v := ?_) (i := 34) (fuel := 7) (by simp; rfl) (by kernel_rfl) (by kernel_rfl) (by kernel_rfl) (Or.inl ⟨by rfl, fun w' hSw => ?_⟩) HB1.out ?_
        rotate_left
        · go_simp
          all_goals with_reducible rfl
        simp only [Act.put, List.setIfInBounds_toArray, List.set_cons_zero, List.set_cons_succ]
        refine ord_take (v := ?_) (i := 35) (fuel := 6) (by simp; rfl) (by kernel_rfl) (by kernel_rfl) (by kernel_rfl) (Or.inl ⟨by rfl, fun w' hSw => ?_⟩) HB1.out ?_
        rotate_left
        · go_simp
          all_goals with_reducible rfl
        simp only [Act.put, List.setIfInBounds_toArray, List.set_cons_zero, List.set_cons_succ]
        refine ord_call (f := 8) (args := #[.int .u64 G, .int .u8 C]) (w1 := w1) (i := 28) (fuel := 5) (by simp; rfl) (by kernel_rfl) (by rfl) ?_ ?_
        · go_simp
          all_goals with_reducible rfl
        refine (step_v G C z1 g c _ hg hc HG.out.symm HCc.out.symm H1.out).mono ?_
        rintro e w' ⟨rfl, rfl⟩
        refine ⟨_, rfl, HB1.out, ?_⟩
        simp only [Act.put, List.setIfInBounds_toArray, List.set_cons_zero, List.set_cons_succ]
        refine ord_call (f := 8) (args := #[.int .u64 G, .int .u8 D]) (w1 := w1) (i := 31) (fuel := 4) (by simp; rfl) (by kernel_rfl) (by rfl) ?_ ?_
        · go_simp
          all_goals with_reducible rfl
        refine (step_v G D z3 g d _ hg hd HG.out.symm HDd.out.symm H3.out).mono ?_
        rintro e w' ⟨rfl, rfl⟩
        refine ⟨_, rfl, HB1.out, ?_⟩
        simp only [Act.put, List.setIfInBounds_toArray, List.set_cons_zero, List.set_cons_succ]
        refine ord_take (v := ?_) (i := 32) (fuel := 3) (by simp; rfl) (by kernel_rfl) (by kernel_rfl) (by kernel_rfl) (Or.inl ⟨by rfl, fun w' hSw => ?_⟩) HB1.out ?_
        rotate_left
        · go_simp
          all_goals with_reducible rfl
        simp only [Act.put, List.setIfInBounds_toArray, List.set_cons_zero, List.set_cons_succ]
        refine ord_take (v := ?_) (i := 36) (fuel := 2) (by simp; rfl) (by kernel_rfl) (by kernel_rfl) (by kernel_rfl) (Or.inl ⟨by rfl, fun w' hSw => ?_⟩) HB1.out ?_
        rotate_left
        · go_simp
          all_goals with_reducible rfl
        simp only [Act.put, List.setIfInBounds_toArray, List.set_cons_zero, List.set_cons_succ]
        refine ord_take (v := ?_) (i := 37) (fuel := 1) (by simp; rfl) (by kernel_rfl) (by kernel_rfl) (by kernel_rfl) (Or.inl ⟨by rfl, fun w' hSw => ?_⟩) HB1.out ?_
        rotate_left
        · go_simp
          all_goals with_reducible rfl
        simp only [Act.put, List.setIfInBounds_toArray, List.set_cons_zero, List.set_cons_succ]
        refine ord_take (v := ?_) (i := 38) (fuel := 0) (by simp; rfl) (by kernel_rfl) (by kernel_rfl) (by kernel_rfl) (Or.inl ⟨by rfl, fun w' hSw => ?_⟩) HB1.out ?_
        rotate_left
        · go_simp
          all_goals with_reducible rfl
        simp only [Act.put, List.setIfInBounds_toArray, List.set_cons_zero, List.set_cons_succ]
        refine ord_done (by kernel_rfl) ?_ _
        go_wp2
        go_ret
        exact ⟨rfl, HB1.out⟩
      · have HC := Lib.hid (HL.out.cut_n hkn hqk)
        go_upto_region 8 with fail
        refine wp_region_ord (S := fun W => Below w.heap.size w W) (by kernel_rfl) ?_
        refine ord_call (f := 7) (args := #[]) (w1 := w.drew) (i := 0) (fuel := 38) (by simp; rfl) (by kernel_rfl) (by rfl) ?_ ?_
        · go_simp
          all_goals with_reducible rfl
        refine (known5_c _).mono ?_
        rintro e w1 ⟨rfl, hb⟩
        have HB1 := Lib.hid (show Below w.heap.size w w1 from HBd.out.trans (hb.mono HBd.out.size))
        have HL1 := Lib.hid ((HL.out.below HB1.out).more HB1.out.size)
        have HC1 := Lib.hid ((HC.out.below HB1.out).more HB1.out.size)
        clear hb
        refine ⟨_, rfl, HB1.out, ?_⟩
        simp only [Act.put, List.setIfInBounds_toArray, List.set_cons_zero, List.set_cons_succ]
        refine ord_take (v := ?_) (i := 1) (fuel := 37) (by simp; rfl) (by kernel_rfl) (by kernel_rfl) (by kernel_rfl) (Or.inl ⟨by rfl, fun w' hSw => ?_⟩) HB1.out ?_
        rotate_left
        · go_simp
          all_goals with_reducible rfl
        simp only [Act.put, List.setIfInBounds_toArray, List.set_cons_zero, List.set_cons_succ]
        refine ord_take (v := ?_) (i := 2) (fuel := 36) (by simp; rfl) (by kernel_rfl) (by kernel_rfl) (by kernel_rfl) (Or.inl ⟨by rfl, fun w' hSw => ?_⟩) HB1.out ?_
        rotate_left
        · go_simp
          all_goals with_reducible rfl
        simp only [Act.put, List.setIfInBounds_toArray, List.set_cons_zero, List.set_cons_succ]
        refine ord_take (v := ?_) (i := 3) (fuel := 35) (by simp; rfl) (by kernel_rfl) (by kernel_rfl) (by kernel_rfl) (Or.inl ⟨by rfl, fun w' hSw => ?_⟩) HB1.out ?_
        rotate_left
        · go_simp
          all_goals with_reducible rfl
        simp only [Act.put, List.setIfInBounds_toArray, List.set_cons_zero, List.set_cons_succ]
        refine ord_take (v := ?_) (i := 5) (fuel := 34) (by simp; rfl) (by kernel_rfl) (by kernel_rfl) (by kernel_rfl) (Or.inl ⟨by rfl, fun w' hSw => ?_⟩) HB1.out ?_
        rotate_left
        · go_simp
          all_goals with_reducible rfl
        simp only [Act.put, List.setIfInBounds_toArray, List.set_cons_zero, List.set_cons_succ]
        refine ord_take (v := ?_) (i := 6) (fuel := 33) (by simp; rfl) (by kernel_rfl) (by kernel_rfl) (by kernel_rfl) (Or.inl ⟨by rfl, fun w' hSw => ?_⟩) HB1.out ?_
        rotate_left
        · go_simp
          all_goals with_reducible rfl
        simp only [Act.put, List.setIfInBounds_toArray, List.set_cons_zero, List.set_cons_succ]
        refine ord_take (v := ?_) (i := 7) (fuel := 32) (by simp; rfl) (by kernel_rfl) (by kernel_rfl) (by kernel_rfl) (Or.inl ⟨by rfl, fun w' hSw => ?_⟩) HB1.out ?_
        rotate_left
        · go_simp
          all_goals with_reducible rfl
        simp only [Act.put, List.setIfInBounds_toArray, List.set_cons_zero, List.set_cons_succ]
        refine ord_take (v := ?_) (i := 8) (fuel := 31) (by simp; rfl) (by kernel_rfl) (by kernel_rfl) (by kernel_rfl) (Or.inl ⟨by rfl, fun w' hSw => ?_⟩) HB1.out ?_
        rotate_left
        · go_simp
          all_goals with_reducible rfl
        simp only [Act.put, List.setIfInBounds_toArray, List.set_cons_zero, List.set_cons_succ]
        refine ord_call (f := 9) (args := #[.int .u64 S, .slice A n q]) (w1 := w1) (i := 4) (fuel := 30) (by simp; rfl) (by kernel_rfl) (by rfl) ?_ ?_
        · go_simp
          all_goals with_reducible rfl
        refine (sum_v S z s A n q l _ HS.out.symm hs HL1.out hn2 HZ.out).mono ?_
        rintro e w' ⟨rfl, rfl⟩
        refine ⟨_, rfl, HB1.out, ?_⟩
        simp only [Act.put, List.setIfInBounds_toArray, List.set_cons_zero, List.set_cons_succ]
        refine ord_call (f := 9) (args := #[.int .u64 (foldM s (l.take j) : Int), .slice (A.map (·.add j)) (n - j) (q - j)]) (w1 := w1) (i := 9) (fuel := 29) (by simp; rfl) (by kernel_rfl) (by rfl) ?_ ?_
        · go_simp
          all_goals with_reducible rfl
        refine (sum_v _ z (foldM s (l.take j)) _ _ _ (l.drop j) _ rfl HF.out HC1.out (by omega) HZ2.out).mono ?_
        rintro e w' ⟨rfl, rfl⟩
        refine ⟨_, rfl, HB1.out, ?_⟩
        simp only [Act.put, List.setIfInBounds_toArray, List.set_cons_zero, List.set_cons_succ]
        refine ord_take (v := ?_) (i := 10) (fuel := 28) (by simp; rfl) (by kernel_rfl) (by kernel_rfl) (by kernel_rfl) (Or.inl ⟨by rfl, fun w' hSw => ?_⟩) HB1.out ?_
        rotate_left
        · go_simp
          all_goals with_reducible rfl
        simp only [Act.put, List.setIfInBounds_toArray, List.set_cons_zero, List.set_cons_succ]
        refine ord_take (v := ?_) (i := 11) (fuel := 27) (by simp; rfl) (by kernel_rfl) (by kernel_rfl) (by kernel_rfl) (Or.inl ⟨by rfl, fun w' hSw => ?_⟩) HB1.out ?_
        rotate_left
        · go_simp
          all_goals with_reducible rfl
        simp only [Act.put, List.setIfInBounds_toArray, List.set_cons_zero, List.set_cons_succ]
        refine ord_take (v := ?_) (i := 12) (fuel := 26) (by simp; rfl) (by kernel_rfl) (by kernel_rfl) (by kernel_rfl) (Or.inl ⟨by rfl, fun w' hSw => ?_⟩) HB1.out ?_
        rotate_left
        · go_simp
          all_goals with_reducible rfl
        simp only [Act.put, List.setIfInBounds_toArray, List.set_cons_zero, List.set_cons_succ]
        refine ord_take (v := ?_) (i := 13) (fuel := 25) (by simp; rfl) (by kernel_rfl) (by kernel_rfl) (by kernel_rfl) (Or.inl ⟨by rfl, fun w' hSw => ?_⟩) HB1.out ?_
        rotate_left
        · go_simp
          all_goals with_reducible rfl
        simp only [Act.put, List.setIfInBounds_toArray, List.set_cons_zero, List.set_cons_succ]
        refine ord_take (v := ?_) (i := 14) (fuel := 24) (by simp; rfl) (by kernel_rfl) (by kernel_rfl) (by kernel_rfl) (Or.inl ⟨by rfl, fun w' hSw => ?_⟩) HB1.out ?_
        rotate_left
        · go_simp
          all_goals with_reducible rfl
        simp only [Act.put, List.setIfInBounds_toArray, List.set_cons_zero, List.set_cons_succ]
        refine ord_take (v := ?_) (i := 16) (fuel := 23) (by simp; rfl) (by kernel_rfl) (by kernel_rfl) (by kernel_rfl) (Or.inl ⟨by rfl, fun w' hSw => ?_⟩) HB1.out ?_
        rotate_left
        · go_simp
          all_goals with_reducible rfl
        simp only [Act.put, List.setIfInBounds_toArray, List.set_cons_zero, List.set_cons_succ]
        refine ord_take (v := ?_) (i := 17) (fuel := 22) (by simp; rfl) (by kernel_rfl) (by kernel_rfl) (by kernel_rfl) (Or.inl ⟨by rfl, fun w' hSw => ?_⟩) HB1.out ?_
        rotate_left
        · go_simp
          all_goals with_reducible rfl
        simp only [Act.put, List.setIfInBounds_toArray, List.set_cons_zero, List.set_cons_succ]
        refine ord_take (v := ?_) (i := 20) (fuel := 21) (by simp; rfl) (by kernel_rfl) (by kernel_rfl) (by kernel_rfl) (Or.inl ⟨by rfl, fun w' hSw => ?_⟩) HB1.out ?_
        rotate_left
        · go_simp
          all_goals with_reducible rfl
        simp only [Act.put, List.setIfInBounds_toArray, List.set_cons_zero, List.set_cons_succ]
        refine ord_take (v := ?_) (i := 21) (fuel := 20) (by simp; rfl) (by kernel_rfl) (by kernel_rfl) (by kernel_rfl) (Or.inl ⟨by rfl, fun w' hSw => ?_⟩) HB1.out ?_
        rotate_left
        · go_simp
          all_goals with_reducible rfl
        simp only [Act.put, List.setIfInBounds_toArray, List.set_cons_zero, List.set_cons_succ]
        refine ord_take (v := ?_) (i := 22) (fuel := 19) (by simp; rfl) (by kernel_rfl) (by kernel_rfl) (by kernel_rfl) (Or.inl ⟨by rfl, fun w' hSw => ?_⟩) HB1.out ?_
        rotate_left
        · go_simp
          all_goals with_reducible rfl
        simp only [Act.put, List.setIfInBounds_toArray, List.set_cons_zero, List.set_cons_succ]
        refine ord_call (f := 8) (args := #[.int .u64 G, .int .u8 C]) (w1 := w1) (i := 15) (fuel := 18) (by simp; rfl) (by kernel_rfl) (by rfl) ?_ ?_
        · go_simp
          all_goals with_reducible rfl
        refine (step_v G C z1 g c _ hg hc HG.out.symm HCc.out.symm H1.out).mono ?_
        rintro e w' ⟨rfl, rfl⟩
        refine ⟨_, rfl, HB1.out, ?_⟩
        simp only [Act.put, List.setIfInBounds_toArray, List.set_cons_zero, List.set_cons_succ]
        refine ord_call (f := 8) (args := #[.int .u64 H, .int .u8 C]) (w1 := w1) (i := 18) (fuel := 17) (by simp; rfl) (by kernel_rfl) (by rfl) ?_ ?_
        · go_simp
          all_goals with_reducible rfl
        refine (step_v H C z2 h c _ hh hc HH.out.symm HCc.out.symm H2.out).mono ?_
        rintro e w' ⟨rfl, rfl⟩
        refine ⟨_, rfl, HB1.out, ?_⟩
        simp only [Act.put, List.setIfInBounds_toArray, List.set_cons_zero, List.set_cons_succ]
        refine ord_take (v := ?_) (i := 19) (fuel := 16) (by simp; rfl) (by kernel_rfl) (by kernel_rfl) (by kernel_rfl) (Or.inl ⟨by rfl, fun w' hSw => ?_⟩) HB1.out ?_
        rotate_left
        · go_simp
          all_goals with_reducible rfl
        simp only [Act.put, List.setIfInBounds_toArray, List.set_cons_zero, List.set_cons_succ]
        refine ord_take (v := ?_) (i := 23) (fuel := 15) (by simp; rfl) (by kernel_rfl) (by kernel_rfl) (by kernel_rfl) (Or.inl ⟨by rfl, fun w' hSw => ?_⟩) HB1.out ?_
        rotate_left
        · go_simp
          all_goals with_reducible rfl
        simp only [Act.put, List.setIfInBounds_toArray, List.set_cons_zero, List.set_cons_succ]
        refine ord_take (v := ?_) (i := 24) (fuel := 14) (by simp; rfl) (by kernel_rfl) (by kernel_rfl) (by kernel_rfl) (Or.inl ⟨by rfl, fun w' hSw => ?_⟩) HB1.out ?_
        rotate_left
        · go_simp
          all_goals with_reducible rfl
        simp only [Act.put, List.setIfInBounds_toArray, List.set_cons_zero, List.set_cons_succ]
        refine ord_take (v := ?_) (i := 25) (fuel := 13) (by simp; rfl) (by kernel_rfl) (by kernel_rfl) (by kernel_rfl) (Or.inl ⟨by rfl, fun w' hSw => ?_⟩) HB1.out ?_
        rotate_left
        · go_simp
          all_goals with_reducible rfl
        simp only [Act.put, List.setIfInBounds_toArray, List.set_cons_zero, List.set_cons_succ]
        refine ord_take (v := ?_) (i := 26) (fuel := 12) (by simp; rfl) (by kernel_rfl) (by kernel_rfl) (by kernel_rfl) (Or.inl ⟨by rfl, fun w' hSw => ?_⟩) HB1.out ?_
        rotate_left
        · go_simp
          all_goals with_reducible rfl
        simp only [Act.put, List.setIfInBounds_toArray, List.set_cons_zero, List.set_cons_succ]
        refine ord_take (v := ?_) (i := 27) (fuel := 11) (by simp; rfl) (by kernel_rfl) (by kernel_rfl) (by kernel_rfl) (Or.inl ⟨by rfl, fun w' hSw => ?_⟩) HB1.out ?_
        rotate_left
        · go_simp
          all_goals with_reducible rfl
        simp only [Act.put, List.setIfInBounds_toArray, List.set_cons_zero, List.set_cons_succ]
        refine ord_take (v := ?_) (i := 29) (fuel := 10) (by simp; rfl) (by kernel_rfl) (by kernel_rfl) (by kernel_rfl) (Or.inl ⟨by rfl, fun w' hSw => ?_⟩) HB1.out ?_
        rotate_left
        · go_simp
          all_goals with_reducible rfl
        simp only [Act.put, List.setIfInBounds_toArray, List.set_cons_zero, List.set_cons_succ]
        refine ord_take (v := ?_) (i := 30) (fuel := 9) (by simp; rfl) (by kernel_rfl) (by kernel_rfl) (by kernel_rfl) (Or.inl ⟨by rfl, fun w' hSw => ?_⟩) HB1.out ?_
        rotate_left
        · go_simp
          all_goals with_reducible rfl
        simp only [Act.put, List.setIfInBounds_toArray, List.set_cons_zero, List.set_cons_succ]
        refine ord_take (v := ?_) (i := 33) (fuel := 8) (by simp; rfl) (by kernel_rfl) (by kernel_rfl) (by kernel_rfl) (Or.inl ⟨by rfl, fun w' hSw => ?_⟩) HB1.out ?_
        rotate_left
        · go_simp
          all_goals with_reducible rfl
        simp only [Act.put, List.setIfInBounds_toArray, List.set_cons_zero, List.set_cons_succ]
        refine ord_take (v := ?_) (i := 34) (fuel := 7) (by simp; rfl) (by kernel_rfl) (by kernel_rfl) (by kernel_rfl) (Or.inl ⟨by rfl, fun w' hSw => ?_⟩) HB1.out ?_
        rotate_left
        · go_simp
          all_goals with_reducible rfl
        simp only [Act.put, List.setIfInBounds_toArray, List.set_cons_zero, List.set_cons_succ]
        refine ord_take (v := ?_) (i := 35) (fuel := 6) (by simp; rfl) (by kernel_rfl) (by kernel_rfl) (by kernel_rfl) (Or.inl ⟨by rfl, fun w' hSw => ?_⟩) HB1.out ?_
        rotate_left
        · go_simp
          all_goals with_reducible rfl
        simp only [Act.put, List.setIfInBounds_toArray, List.set_cons_zero, List.set_cons_succ]
        refine ord_call (f := 8) (args := #[.int .u64 G, .int .u8 C]) (w1 := w1) (i := 28) (fuel := 5) (by simp; rfl) (by kernel_rfl) (by rfl) ?_ ?_
        · go_simp
          all_goals with_reducible rfl
        refine (step_v G C z1 g c _ hg hc HG.out.symm HCc.out.symm H1.out).mono ?_
        rintro e w' ⟨rfl, rfl⟩
        refine ⟨_, rfl, HB1.out, ?_⟩
        simp only [Act.put, List.setIfInBounds_toArray, List.set_cons_zero, List.set_cons_succ]
        refine ord_call (f := 8) (args := #[.int .u64 G, .int .u8 D]) (w1 := w1) (i := 31) (fuel := 4) (by simp; rfl) (by kernel_rfl) (by rfl) ?_ ?_
        · go_simp
          all_goals with_reducible rfl
        refine (step_v G D z3 g d _ hg hd HG.out.symm HDd.out.symm H3.out).mono ?_
        rintro e w' ⟨rfl, rfl⟩
        refine ⟨_, rfl, HB1.out, ?_⟩
        simp only [Act.put, List.setIfInBounds_toArray, List.set_cons_zero, List.set_cons_succ]
        refine ord_take (v := ?_) (i := 32) (fuel := 3) (by simp; rfl) (by kernel_rfl) (by kernel_rfl) (by kernel_rfl) (Or.inl ⟨by rfl, fun w' hSw => ?_⟩) HB1.out ?_
        rotate_left
        · go_simp
          all_goals with_reducible rfl
        simp only [Act.put, List.setIfInBounds_toArray, List.set_cons_zero, List.set_cons_succ]
        refine ord_take (v := ?_) (i := 36) (fuel := 2) (by simp; rfl) (by kernel_rfl) (by kernel_rfl) (by kernel_rfl) (Or.inl ⟨by rfl, fun w' hSw => ?_⟩) HB1.out ?_
        rotate_left
        · go_simp
          all_goals with_reducible rfl
        simp only [Act.put, List.setIfInBounds_toArray, List.set_cons_zero, List.set_cons_succ]
        refine ord_take (v := ?_) (i := 37) (fuel := 1) (by simp; rfl) (by kernel_rfl) (by kernel_rfl) (by kernel_rfl) (Or.inl ⟨by rfl, fun w' hSw => ?_⟩) HB1.out ?_
        rotate_left
        · go_simp
          all_goals with_reducible rfl
        simp only [Act.put, List.setIfInBounds_toArray, List.set_cons_zero, List.set_cons_succ]
        refine ord_take (v := ?_) (i := 38) (fuel := 0) (by simp; rfl) (by kernel_rfl) (by kernel_rfl) (by kernel_rfl) (Or.inl ⟨by rfl, fun w' hSw => ?_⟩) HB1.out ?_
        rotate_left
        · go_simp
          all_goals with_reducible rfl
        simp only [Act.put, List.setIfInBounds_toArray, List.set_cons_zero, List.set_cons_succ]
        refine ord_done (by kernel_rfl) ?_ _
        go_wp2
        go_ret
        exact ⟨rfl, HB1.out⟩
end Go.Proofs.Ytinoppcccpbmkaa

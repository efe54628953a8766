/- The walks of MarkTells, MarkTurns, MarkSteps. -/
import Derived.Test.YtinoppcccpbmkaaMarkD
import Derived.Deep.CutBlock
import Derived.Deep.DeepCutAuto
namespace Go.Proofs.Ytinoppcccpbmkaa
open Go.RowKit
set_option maxRecDepth 100000 in
set_option maxHeartbeats 3200000 in
theorem markTells_c (h c : Nat) (A : Option Addr) (n k : Nat) (l : List UInt8) (w : World) (hh : h < 18446744073709551616) (hc : c < 256) (hl : Bs w w.heap.size A n k l) (hk : k ≤ 140737488351232) :
    Calls Try.prog 4 #[.int .u64 (h : Int), .int .u8 (c : Int), .slice A n k] w fun e w' => e = .returned (.bool true) ∧ Below w.heap.size w w' := by
  have hn : n ≤ 281474976710656 := by have := hl.room; omega
  have HL := Lib.hid hl
  have HN := Lib.hid hn
  clear hl hn
  go_enter Try.func4, Try.ntmps4
  go_upto_region 1 with fail
  have HBd := Lib.hid (show Below w.heap.size w w.drew from (Below.refl _ _).drew)
  refine wp_region_ord (S := fun W => Below w.heap.size w W) (by kernel_rfl) ?_
  refine ord_call (f := 7) (args := #[]) (w1 := w.drew) (i := 0) (fuel := 28) (by simp; rfl) (by kernel_rfl) (by rfl) ?_ ?_
  · go_simp
    all_goals with_reducible rfl
  refine (known5_c _).mono ?_
  rintro e w1 ⟨rfl, hb⟩
  have HB1 := Lib.hid (show Below w.heap.size w w1 from HBd.out.trans (hb.mono HBd.out.size))
  have HL1 := Lib.hid (HL.out.below HB1.out)
  clear hb
  refine ⟨_, rfl, HB1.out, ?_⟩
  simp only [Act.put, List.setIfInBounds_toArray, List.set_cons_zero, List.set_cons_succ]
  refine ord_take (v := ?_) (i := 1) (fuel := 27) (by simp; rfl) (by kernel_rfl) (by kernel_rfl) (by kernel_rfl) (Or.inl ⟨by rfl, fun w' hSw => ?_⟩) HB1.out ?_
  rotate_left
  · go_simp
    all_goals with_reducible rfl
  simp only [Act.put, List.setIfInBounds_toArray, List.set_cons_zero, List.set_cons_succ]
  refine ord_take (v := ?_) (i := 2) (fuel := 26) (by simp; rfl) (by kernel_rfl) (by kernel_rfl) (by kernel_rfl) (Or.inl ⟨by rfl, fun w' hSw => ?_⟩) HB1.out ?_
  rotate_left
  · go_simp
    all_goals with_reducible rfl
  simp only [Act.put, List.setIfInBounds_toArray, List.set_cons_zero, List.set_cons_succ]
  refine ord_take (v := ?_) (i := 3) (fuel := 25) (by simp; rfl) (by kernel_rfl) (by kernel_rfl) (by kernel_rfl) (Or.inl ⟨by rfl, fun w' hSw => ?_⟩) HB1.out ?_
  rotate_left
  · go_simp
    all_goals with_reducible rfl
  simp only [Act.put, List.setIfInBounds_toArray, List.set_cons_zero, List.set_cons_succ]
  refine ord_take (v := ?_) (i := 5) (fuel := 24) (by simp; rfl) (by kernel_rfl) (by kernel_rfl) (by kernel_rfl) (Or.inl ⟨by rfl, fun w' hSw => ?_⟩) HB1.out ?_
  rotate_left
  · go_simp
    all_goals with_reducible rfl
  simp only [Act.put, List.setIfInBounds_toArray, List.set_cons_zero, List.set_cons_succ]
  refine ord_take (v := ?_) (i := 6) (fuel := 23) (by simp; rfl) (by kernel_rfl) (by kernel_rfl) (by kernel_rfl) (Or.inl ⟨by rfl, fun w' hSw => ?_⟩) HB1.out ?_
  rotate_left
  · go_simp
    all_goals with_reducible rfl
  simp only [Act.put, List.setIfInBounds_toArray, List.set_cons_zero, List.set_cons_succ]
  refine ord_call (f := 8) (args := #[.int .u64 (h : Int), .int .u8 (c : Int)]) (w1 := w1) (i := 4) (fuel := 22) (by simp; rfl) (by kernel_rfl) (by rfl) ?_ ?_
  · go_simp
    all_goals with_reducible rfl
  refine (step_c h c _ _ hh hc rfl).mono ?_
  rintro e w' ⟨rfl, rfl⟩
  refine ⟨_, rfl, HB1.out, ?_⟩
  simp only [Act.put, List.setIfInBounds_toArray, List.set_cons_zero, List.set_cons_succ]
  refine ord_call (f := 11) (args := #[.int .u64 (h : Int), .int .u8 (c : Int)]) (w1 := w1) (i := 7) (fuel := 21) (by simp; rfl) (by kernel_rfl) (by rfl) ?_ ?_
  · go_simp
    all_goals with_reducible rfl
  refine (refStep_c h c _ _ hh hc rfl).mono ?_
  rintro e w' ⟨rfl, rfl⟩
  refine ⟨_, rfl, HB1.out, ?_⟩
  simp only [Act.put, List.setIfInBounds_toArray, List.set_cons_zero, List.set_cons_succ]
  refine ord_take (v := ?_) (i := 8) (fuel := 20) (by simp; rfl) (by kernel_rfl) (by kernel_rfl) (by kernel_rfl) (Or.inl ⟨by rfl, fun w' hSw => ?_⟩) HB1.out ?_
  rotate_left
  · go_simp
    all_goals with_reducible rfl
  simp only [Act.put, List.setIfInBounds_toArray, List.set_cons_zero, List.set_cons_succ]
  refine ord_take (v := ?_) (i := 9) (fuel := 19) (by simp; rfl) (by kernel_rfl) (by kernel_rfl) (by kernel_rfl) (Or.inl ⟨by rfl, fun w' hSw => ?_⟩) HB1.out ?_
  rotate_left
  · go_simp
    all_goals with_reducible rfl
  simp only [Act.put, List.setIfInBounds_toArray, List.set_cons_zero, List.set_cons_succ]
  refine ord_take (v := ?_) (i := 10) (fuel := 18) (by simp; rfl) (by kernel_rfl) (by kernel_rfl) (by kernel_rfl) (Or.inl ⟨by rfl, fun w' hSw => ?_⟩) HB1.out ?_
  rotate_left
  · go_simp
    all_goals with_reducible rfl
  simp only [Act.put, List.setIfInBounds_toArray, List.set_cons_zero, List.set_cons_succ]
  refine ord_take (v := ?_) (i := 11) (fuel := 17) (by simp; rfl) (by kernel_rfl) (by kernel_rfl) (by kernel_rfl) (Or.inl ⟨by rfl, fun w' hSw => ?_⟩) HB1.out ?_
  rotate_left
  · go_simp
    all_goals with_reducible rfl
  simp only [Act.put, List.setIfInBounds_toArray, List.set_cons_zero, List.set_cons_succ]
  refine ord_take (v := ?_) (i := 12) (fuel := 16) (by simp; rfl) (by kernel_rfl) (by kernel_rfl) (by kernel_rfl) (Or.inl ⟨by rfl, fun w' hSw => ?_⟩) HB1.out ?_
  rotate_left
  · go_simp
    all_goals with_reducible rfl
  simp only [Act.put, List.setIfInBounds_toArray, List.set_cons_zero, List.set_cons_succ]
  refine ord_take (v := ?_) (i := 14) (fuel := 15) (by simp; rfl) (by kernel_rfl) (by kernel_rfl) (by kernel_rfl) (Or.inl ⟨by rfl, fun w' hSw => ?_⟩) HB1.out ?_
  rotate_left
  · go_simp
    all_goals with_reducible rfl
  simp only [Act.put, List.setIfInBounds_toArray, List.set_cons_zero, List.set_cons_succ]
  refine ord_take (v := ?_) (i := 15) (fuel := 14) (by simp; rfl) (by kernel_rfl) (by kernel_rfl) (by kernel_rfl) (Or.inl ⟨by rfl, fun w' hSw => ?_⟩) HB1.out ?_
  rotate_left
  · go_simp
    all_goals with_reducible rfl
  simp only [Act.put, List.setIfInBounds_toArray, List.set_cons_zero, List.set_cons_succ]
  refine ord_call (f := 9) (args := #[.int .u64 (h : Int), .slice A n k]) (w1 := w1) (i := 13) (fuel := 13) (by simp; rfl) (by kernel_rfl) (by rfl) ?_ ?_
  · go_simp
    all_goals with_reducible rfl
  refine (sum_c h _ A n k l _ _ rfl hh HL1.out HN.out).mono ?_
  rintro e w' ⟨rfl, rfl⟩
  refine ⟨_, rfl, HB1.out, ?_⟩
  simp only [Act.put, List.setIfInBounds_toArray, List.set_cons_zero, List.set_cons_succ]
  refine ord_call (f := 12) (args := #[.int .u64 (h : Int), .slice A n k]) (w1 := w1) (i := 16) (fuel := 12) (by simp; rfl) (by kernel_rfl) (by rfl) ?_ ?_
  · go_simp
    all_goals with_reducible rfl
  refine (refSum_c h _ A n k l _ _ rfl hh HL1.out HN.out).mono ?_
  rintro e w' ⟨rfl, rfl⟩
  refine ⟨_, rfl, HB1.out, ?_⟩
  simp only [Act.put, List.setIfInBounds_toArray, List.set_cons_zero, List.set_cons_succ]
  refine ord_take (v := ?_) (i := 17) (fuel := 11) (by simp; rfl) (by kernel_rfl) (by kernel_rfl) (by kernel_rfl) (Or.inl ⟨by rfl, fun w' hSw => ?_⟩) HB1.out ?_
  rotate_left
  · go_simp
    all_goals with_reducible rfl
  simp only [Act.put, List.setIfInBounds_toArray, List.set_cons_zero, List.set_cons_succ]
  refine ord_take (v := ?_) (i := 18) (fuel := 10) (by simp; rfl) (by kernel_rfl) (by kernel_rfl) (by kernel_rfl) (Or.inl ⟨by rfl, fun w' hSw => ?_⟩) HB1.out ?_
  rotate_left
  · go_simp
    all_goals with_reducible rfl
  simp only [Act.put, List.setIfInBounds_toArray, List.set_cons_zero, List.set_cons_succ]
  refine ord_take (v := ?_) (i := 19) (fuel := 9) (by simp; rfl) (by kernel_rfl) (by kernel_rfl) (by kernel_rfl) (Or.inl ⟨by rfl, fun w' hSw => ?_⟩) HB1.out ?_
  rotate_left
  · go_simp
    all_goals with_reducible rfl
  simp only [Act.put, List.setIfInBounds_toArray, List.set_cons_zero, List.set_cons_succ]
  refine ord_take (v := ?_) (i := 20) (fuel := 8) (by simp; rfl) (by kernel_rfl) (by kernel_rfl) (by kernel_rfl) (Or.inl ⟨by rfl, fun w' hSw => ?_⟩) HB1.out ?_
  rotate_left
  · go_simp
    all_goals with_reducible rfl
  simp only [Act.put, List.setIfInBounds_toArray, List.set_cons_zero, List.set_cons_succ]
  refine ord_take (v := ?_) (i := 23) (fuel := 7) (by simp; rfl) (by kernel_rfl) (by kernel_rfl) (by kernel_rfl) (Or.inl ⟨by rfl, fun w' hSw => ?_⟩) HB1.out ?_
  rotate_left
  · go_simp
    all_goals with_reducible rfl
  simp only [Act.put, List.setIfInBounds_toArray, List.set_cons_zero, List.set_cons_succ]
  refine ord_call (f := 10) (args := #[.int .u64 (h : Int)]) (w1 := w1) (i := 21) (fuel := 6) (by simp; rfl) (by kernel_rfl) (by rfl) ?_ ?_
  · go_simp
    all_goals with_reducible rfl
  refine (bytes_c h _ _ rfl).mono ?_
  rintro e w2 ⟨rfl, ho, hb⟩
  have HB2 := Lib.hid (bel_tr HB1.out hb)
  have HO2 := Lib.hid ho
  clear ho hb
  refine ⟨_, rfl, HB2.out, ?_⟩
  simp only [Act.put, List.setIfInBounds_toArray, List.set_cons_zero, List.set_cons_succ]
  have HBr := Lib.hid (Below.refl w2.heap.size w2)
  refine ord_mono (S' := fun W => Below w2.heap.size w2 W) (fun W hW => HB2.out.trans (hW.mono HB2.out.size)) _ _ _ _ ?_
  refine ord_take (v := ?_) (i := 22) (fuel := 5) (by simp; rfl) (by kernel_rfl) (by kernel_rfl) (by kernel_rfl) (Or.inl ⟨by rfl, fun w' hSw => ?_⟩) HBr.out ?_
  rotate_left
  · dsimp only at hSw
    have hq := str_run (HO2.out.bs.below hSw)
    go_simp
    all_goals with_reducible rfl
  simp only [Act.put, List.setIfInBounds_toArray, List.set_cons_zero, List.set_cons_succ]
  refine ord_call (f := 13) (args := #[.int .u64 (h : Int)]) (w1 := w2) (i := 24) (fuel := 4) (by simp; rfl) (by kernel_rfl) (by rfl) ?_ ?_
  · go_simp
    all_goals with_reducible rfl
  refine (refBytes_c h _ _ rfl hh).mono ?_
  rintro e w3 ⟨rfl, ho, hb⟩
  have HB3 := Lib.hid hb
  have hq := str_run ho.bs
  clear ho hb
  refine ⟨_, rfl, HB3.out, ?_⟩
  simp only [Act.put, List.setIfInBounds_toArray, List.set_cons_zero, List.set_cons_succ]
  refine ord_only (v := ?_) (w' := w3) (i := 25) (fuel := 3) (by simp; rfl) (by kernel_rfl) (by rfl) ?_ HB3.out ?_
  rotate_left
  · go_simp
    all_goals with_reducible rfl
  simp only [Act.put, List.setIfInBounds_toArray, List.set_cons_zero, List.set_cons_succ]
  refine ord_take (v := ?_) (i := 26) (fuel := 2) (by simp; rfl) (by kernel_rfl) (by kernel_rfl) (by kernel_rfl) (Or.inl ⟨by rfl, fun w' hSw => ?_⟩) HB3.out ?_
  rotate_left
  · go_simp
    all_goals with_reducible rfl
  simp only [Act.put, List.setIfInBounds_toArray, List.set_cons_zero, List.set_cons_succ]
  refine ord_take (v := ?_) (i := 27) (fuel := 1) (by simp; rfl) (by kernel_rfl) (by kernel_rfl) (by kernel_rfl) (Or.inl ⟨by rfl, fun w' hSw => ?_⟩) HB3.out ?_
  rotate_left
  · go_simp
    all_goals with_reducible rfl
  simp only [Act.put, List.setIfInBounds_toArray, List.set_cons_zero, List.set_cons_succ]
  refine ord_take (v := ?_) (i := 28) (fuel := 0) (by simp; rfl) (by kernel_rfl) (by kernel_rfl) (by kernel_rfl) (Or.inl ⟨by rfl, fun w' hSw => ?_⟩) HB3.out ?_
  rotate_left
  · go_simp
    all_goals with_reducible rfl
  simp only [Act.put, List.setIfInBounds_toArray, List.set_cons_zero, List.set_cons_succ]
  refine ord_done (by kernel_rfl) ?_ _
  go_wp2
  go_ret
  exact ⟨rfl, bel_tr HB2.out HB3.out⟩
theorem beq_both {a b c d : Int} (h : a = b ↔ c = d) : ∃ β : Bool, (a == b) = β ∧ (c == d) = β :=
  ⟨c == d, by rw [Bool.eq_iff_iff, beq_iff_eq, beq_iff_eq]; exact h, rfl⟩
theorem cast_iff {a b c d : Nat} (h : a = b ↔ c = d) : ((a : Int) = (b : Int)) ↔ ((c : Int) = (d : Int)) := by
  rw [Int.natCast_inj, Int.natCast_inj]
  exact h
theorem set_iff {l : List UInt8} {s k c : Nat} (hs : s < 18446744073709551616) (hk : k < l.length) (hc : c < 256) : sumM s (l.set k (UInt8.ofNat c)) = sumM s l ↔ c = (l[k]'hk).toNat := by
  rw [sumM_set l hs hk]
  constructor
  · intro e
    rw [← e, u8_of c hc]
  · intro e
    rw [e, u8_back]
set_option maxRecDepth 100000 in
set_option maxHeartbeats 3200000 in
theorem markTurns_c (s o c : Nat) (A : Option Addr) (n q : Nat) (l : List UInt8) (at' : Int) (w : World) (hs : s < 18446744073709551616) (ho : o < 18446744073709551616) (hc : c < 256) (hl : Bs w w.heap.size A n q l) (hq : q ≤ 140737488351232) :
    Calls Try.prog 5 #[.int .u64 (s : Int), .int .u64 (o : Int), .slice A n q, .int .i64 at', .int .u8 (c : Int)] w fun e w' => e = .returned (.bool true) ∧ Below w.heap.size w w' := by
  have hn : n ≤ 140737488351232 := by have := hl.room; omega
  have hn2 : n ≤ 281474976710656 := by omega
  have hlen := hl.len
  have HL := Lib.hid hl
  obtain ⟨z, hz⟩ : ∃ z : Int, (sumM s l : Int) = z := ⟨_, rfl⟩
  obtain ⟨y, hy⟩ : ∃ y : Int, (sumM o l : Int) = y := ⟨_, rfl⟩
  obtain ⟨S, hS⟩ : ∃ S : Int, (s : Int) = S := ⟨_, rfl⟩
  obtain ⟨O, hO⟩ : ∃ O : Int, (o : Int) = O := ⟨_, rfl⟩
  obtain ⟨C, hC⟩ : ∃ C : Int, (c : Int) = C := ⟨_, rfl⟩
  obtain ⟨β, b1, b2⟩ := beq_both (cast_iff (sumM_seed l ho hs))
  rw [hz, hy] at b1
  rw [hS, hO] at b2
  rw [hS, hO, hC]
  have HZ := Lib.hid hz
  have HY := Lib.hid hy
  have HS := Lib.hid hS
  have HO := Lib.hid hO
  have HC := Lib.hid hC
  have HT := Lib.hid (show l.take n = l from List.take_of_length_le (by omega))
  clear hl hz hy hS hO hC hlen
  go_enter Try.func5, Try.ntmps5
  go_wp2_with fail
  (with_reducible refine (sum_v S z s A n q l _ HS.out.symm hs HL.out hn2 HZ.out).mono ?_)
  rintro e w' ⟨rfl, rfl⟩
  go_wp2_with fail
  (with_reducible refine (known5_c _).mono ?_)
  rintro e w1 ⟨rfl, hb⟩
  have HB1 := Lib.hid hb
  have HL1 := Lib.hid ((HL.out.below hb).more hb.size)
  clear hb
  go_wp2_with fail
  (with_reducible refine (sum_v O y o A n q l _ HO.out.symm ho HL1.out hn2 HY.out).mono ?_)
  rintro e w' ⟨rfl, rfl⟩
  by_cases h0 : n = 0
  · subst h0
    go_wp2
    go_ret
    exact ⟨rfl, HB1.out⟩
  · have h0' : ((n : Int) == 0) = false := by simp; omega
    go_wp2_with fail
    (with_reducible refine (few_c A n q l (n : Int) n n _ HL1.out rfl (Nat.min_self n) (by omega)).mono ?_)
    rintro e w2 ⟨g, cg, rfl, hown, hb⟩
    rw [HT.out] at hown
    have HB2 := Lib.hid (bel_tr HB1.out hb)
    have HOw := Lib.hid hown
    clear hown hb
    go_wp2_with fail
    (with_reducible refine (pickB at' (n : Int) _ (by omega) (by omega)).mono ?_)
    rintro e w' ⟨k, hk, rfl, rfl⟩
    have hkn : k < n := by omega
    have hkl : k < l.length := by rw [HL.out.len]; exact hkn
    have k0 : (0 : Int) ≤ (k : Int) := by omega
    have fz := HOw.out.2.frozenAt k
    obtain ⟨g', o', _, e', _, cell⟩ := HOw.out.bs.at_ hkn
    cases e'
    rw [Nat.zero_add] at cell
    have hgs : g < w2.heap.size := HOw.out.lt
    have hge : w.heap.size ≤ g := by have := HOw.out.ge; have := HB1.out.size; omega
    have HBw := Lib.hid (show Below w.heap.size w (w2.setCell ⟨g, k, none⟩ (.int .u8 C)) from HB2.out.setCell hge _)
    have HOn := Lib.hid (HOw.out.set_ k hc HC.out.symm)
    obtain ⟨g1, o1, _, eA, hg1, cb⟩ := (HL.out.below HBw.out).at_ hkn
    obtain ⟨X, hX⟩ : ∃ X : Int, ((l[k]'hkl).toNat : Int) = X := ⟨_, rfl⟩
    obtain ⟨d, hd⟩ : ∃ d : Int, (sumM s (l.set k (UInt8.ofNat c)) : Int) = d := ⟨_, rfl⟩
    obtain ⟨γ, g1', g2'⟩ := beq_both (cast_iff (set_iff hs hkl hc))
    rw [hd, HZ.out] at g1'
    rw [HC.out, hX] at g2'
    rw [hX] at cb
    have HD := Lib.hid hd
    subst eA
    clear hd hX
    go_upto_region 9 with fail
    obtain ⟨W, hW⟩ : ∃ W : World, W = (w2.setCell ⟨g, k, none⟩ (.int .u8 C)) := ⟨_, rfl⟩
    rw [← hW]
    rw [← hW] at HBw HOn cb
    clear hW
    refine wp_region_ord (S := fun V => V = W.drew) (by kernel_rfl) ?_
    refine ord_take (v := ?_) (i := 0) (fuel := 12) (by simp; rfl) (by kernel_rfl) (by kernel_rfl) (by kernel_rfl) (Or.inl ⟨by rfl, fun w' hSw => ?_⟩) rfl ?_
    rotate_left
    · go_simp
      all_goals with_reducible rfl
    simp only [Act.put, List.setIfInBounds_toArray, List.set_cons_zero, List.set_cons_succ]
    refine ord_take (v := ?_) (i := 1) (fuel := 11) (by simp; rfl) (by kernel_rfl) (by kernel_rfl) (by kernel_rfl) (Or.inl ⟨by rfl, fun w' hSw => ?_⟩) rfl ?_
    rotate_left
    · go_simp
      all_goals with_reducible rfl
    simp only [Act.put, List.setIfInBounds_toArray, List.set_cons_zero, List.set_cons_succ]
    refine ord_take (v := ?_) (i := 3) (fuel := 10) (by simp; rfl) (by kernel_rfl) (by kernel_rfl) (by kernel_rfl) (Or.inl ⟨by rfl, fun w' hSw => ?_⟩) rfl ?_
    rotate_left
    · go_simp
      all_goals with_reducible rfl
    simp only [Act.put, List.setIfInBounds_toArray, List.set_cons_zero, List.set_cons_succ]
    refine ord_take (v := ?_) (i := 5) (fuel := 9) (by simp; rfl) (by kernel_rfl) (by kernel_rfl) (by kernel_rfl) (Or.inl ⟨by rfl, fun w' hSw => ?_⟩) rfl ?_
    rotate_left
    · go_simp
      all_goals with_reducible rfl
    simp only [Act.put, List.setIfInBounds_toArray, List.set_cons_zero, List.set_cons_succ]
    refine ord_take (v := ?_) (i := 6) (fuel := 8) (by simp; rfl) (by kernel_rfl) (by kernel_rfl) (by kernel_rfl) (Or.inl ⟨by rfl, fun w' hSw => ?_⟩) rfl ?_
    rotate_left
    · go_simp
      all_goals with_reducible rfl
    simp only [Act.put, List.setIfInBounds_toArray, List.set_cons_zero, List.set_cons_succ]
    refine ord_take (v := ?_) (i := 7) (fuel := 7) (by simp; rfl) (by kernel_rfl) (by kernel_rfl) (by kernel_rfl) (Or.inl ⟨by rfl, fun w' hSw => ?_⟩) rfl ?_
    rotate_left
    · go_simp
      all_goals with_reducible rfl
    simp only [Act.put, List.setIfInBounds_toArray, List.set_cons_zero, List.set_cons_succ]
    refine ord_take (v := ?_) (i := 8) (fuel := 6) (by simp; rfl) (by kernel_rfl) (by kernel_rfl) (by kernel_rfl) (Or.inl ⟨by rfl, fun w' hSw => ?_⟩) rfl ?_
    rotate_left
    · go_simp
      all_goals with_reducible rfl
    simp only [Act.put, List.setIfInBounds_toArray, List.set_cons_zero, List.set_cons_succ]
    refine ord_take (v := ?_) (i := 9) (fuel := 5) (by simp; rfl) (by kernel_rfl) (by kernel_rfl) (by kernel_rfl) (Or.inl ⟨by rfl, fun w' hSw => ?_⟩) rfl ?_
    rotate_left
    · dsimp only at hSw
      subst hSw
      have cbd : W.drew.cell? ⟨g1, o1 + k, none⟩ = some (.int .u8 X) := cb
      go_simp
      all_goals with_reducible rfl
    simp only [Act.put, List.setIfInBounds_toArray, List.set_cons_zero, List.set_cons_succ]
    refine ord_take (v := ?_) (i := 10) (fuel := 4) (by simp; rfl) (by kernel_rfl) (by kernel_rfl) (by kernel_rfl) (Or.inl ⟨by rfl, fun w' hSw => ?_⟩) rfl ?_
    rotate_left
    · go_simp
      all_goals with_reducible rfl
    simp only [Act.put, List.setIfInBounds_toArray, List.set_cons_zero, List.set_cons_succ]
    refine ord_call (f := 9) (args := #[.int .u64 S, .slice (some ⟨g, 0, none⟩) n cg]) (w1 := W.drew) (i := 2) (fuel := 3) (by simp; rfl) (by kernel_rfl) (by rfl) ?_ ?_
    · go_simp
      all_goals with_reducible rfl
    refine (sum_v S d s _ n cg _ _ HS.out.symm hs (HOn.out.bs.drewN 1) hn2 HD.out).mono ?_
    rintro e w' ⟨rfl, rfl⟩
    refine ⟨_, rfl, rfl, ?_⟩
    simp only [Act.put, List.setIfInBounds_toArray, List.set_cons_zero, List.set_cons_succ]
    refine ord_take (v := ?_) (i := 4) (fuel := 2) (by simp; rfl) (by kernel_rfl) (by kernel_rfl) (by kernel_rfl) (Or.inl ⟨by rfl, fun w' hSw => ?_⟩) rfl ?_
    rotate_left
    · go_simp
      all_goals with_reducible rfl
    simp only [Act.put, List.setIfInBounds_toArray, List.set_cons_zero, List.set_cons_succ]
    refine ord_take (v := ?_) (i := 11) (fuel := 1) (by simp; rfl) (by kernel_rfl) (by kernel_rfl) (by kernel_rfl) (Or.inl ⟨by rfl, fun w' hSw => ?_⟩) rfl ?_
    rotate_left
    · go_simp
      all_goals with_reducible rfl
    simp only [Act.put, List.setIfInBounds_toArray, List.set_cons_zero, List.set_cons_succ]
    refine ord_take (v := ?_) (i := 12) (fuel := 0) (by simp; rfl) (by kernel_rfl) (by kernel_rfl) (by kernel_rfl) (Or.inl ⟨by rfl, fun w' hSw => ?_⟩) rfl ?_
    rotate_left
    · go_simp
      all_goals with_reducible rfl
    simp only [Act.put, List.setIfInBounds_toArray, List.set_cons_zero, List.set_cons_succ]
    refine ord_done (by kernel_rfl) ?_ _
    go_wp2
    go_ret
    exact ⟨rfl, HBw.out.drew⟩
end Go.Proofs.Ytinoppcccpbmkaa

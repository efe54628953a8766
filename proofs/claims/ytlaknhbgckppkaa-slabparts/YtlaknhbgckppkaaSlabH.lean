/- The walk of SlabParts. -/
import Derived.Test.YtlaknhbgckppkaaSlabG
namespace Go.Proofs.Ytlaknhbgckppkaa
open Go.RowKit
theorem spl_get {l b : List UInt8} {o : Nat} (h : o + b.length ≤ l.length) (i : Nat) : (spl l o b)[i]? = if i < o then l[i]? else if i < o + b.length then b[i - o]? else l[i]? := by
  unfold spl
  have e1 : (l.take o).length = o := by rw [List.length_take]; omega
  by_cases h1 : i < o
  · rw [if_pos h1, List.getElem?_append_left (by omega), List.getElem?_take_of_lt h1]
  · rw [if_neg h1, List.getElem?_append_right (by omega), e1]
    by_cases h2 : i < o + b.length
    · rw [if_pos h2, List.getElem?_append_left (by omega)]
    · rw [if_neg h2, List.getElem?_append_right (by omega), List.getElem?_drop]
      congr 1
      omega
/-- Of two that do not meet the order does not count. -/
theorem spl_comm {l a b : List UInt8} {o p : Nat} (h1 : o + a.length ≤ p) (h2 : p + b.length ≤ l.length) : spl (spl l o a) p b = spl (spl l p b) o a := by
  have e1 : (spl l o a).length = l.length := spl_len rfl (by omega)
  have e2 : (spl l p b).length = l.length := spl_len rfl h2
  apply List.ext_getElem?
  intro i
  rw [spl_get (by omega), spl_get (by omega), spl_get (by omega), spl_get (by omega)]
  by_cases c1 : i < o
  · rw [if_pos (by omega), if_pos c1, if_pos c1, if_pos (by omega)]
  · by_cases c2 : i < o + a.length
    · rw [if_pos (by omega), if_neg c1, if_pos c2, if_neg c1, if_pos c2]
    · by_cases c3 : i < p
      · rw [if_pos c3, if_neg c1, if_neg c2, if_neg c1, if_neg c2, if_pos c3]
      · by_cases c4 : i < p + b.length
        · rw [if_neg c3, if_pos c4, if_neg c1, if_neg c2, if_neg c3, if_pos c4]
        · rw [if_neg c3, if_neg c4, if_neg c1, if_neg c2, if_neg c1, if_neg c2, if_neg c3, if_neg c4]
theorem spl_part {l b : List UInt8} {o : Nat} (h : o + b.length ≤ l.length) : ((spl l o b).drop o).take b.length = b := by
  unfold spl
  have e1 : (l.take o).length = o := by rw [List.length_take]; omega
  rw [List.drop_left' e1, List.take_left' rfl]
theorem two_parts (E : List UInt8) {k n : Nat} (hn : E.length = n) : E.take k ++ (E.drop k).take (n - k) = E := by
  rw [List.take_of_length_le (l := E.drop k) (by rw [List.length_drop]; omega), List.take_append_drop]
set_option maxRecDepth 100000 in
set_option maxHeartbeats 6400000 in
theorem slabParts_c (n at' to' cut : Int) (A : Option Addr) (m q : Nat) (la : List UInt8) (B : Option Addr) (m2 q2 : Nat) (lb : List UInt8) (w : World) (hl : Bs w w.heap.size A m q la) (hq : q ≤ 140737488351232) (hl2 : Bs w w.heap.size B m2 q2 lb) (hq2 : q2 ≤ 140737488351232) :
    Calls Try.prog 7 #[.int .i64 n, .int .i64 at', .int .i64 to', .int .i64 cut, .slice A m q, .slice B m2 q2] w fun e w' => e = .returned (.bool true) ∧ Below w.heap.size w w' := by
  have hm : m ≤ 140737488355328 := by have := hl.room; omega
  have hm2 : m2 ≤ 140737488355328 := by have := hl2.room; omega
  have HLa := Lib.hid hl
  have HLb := Lib.hid hl2
  clear hl hl2
  have kx12 : min m 12 ≤ 12 := by omega
  obtain ⟨kx, hkx⟩ : ∃ k : Nat, min m 12 = k := ⟨_, rfl⟩
  rw [hkx] at kx12
  have HKX := Lib.hid hkx
  have ky12 : min m2 12 ≤ 12 := by omega
  obtain ⟨ky, hky⟩ : ∃ k : Nat, min m2 12 = k := ⟨_, rfl⟩
  rw [hky] at ky12
  have HKY := Lib.hid hky
  obtain ⟨X, hX⟩ : ∃ D : List UInt8, la.take 12 = D := ⟨_, rfl⟩
  obtain ⟨Y, hY⟩ : ∃ D : List UInt8, lb.take 12 = D := ⟨_, rfl⟩
  have HX := Lib.hid hX
  have HY := Lib.hid hY
  clear hkx hky hX hY
  go_enter Try.func7, Try.ntmps7
  go_wp2_with fail
  (with_reducible refine (pickB n 60 _ (by omega) (by omega)).mono ?_)
  rintro e w' ⟨j0, hj0, rfl, rfl⟩
  go_wp2_with fail
  obtain ⟨N, hN⟩ : ∃ N : Nat, (30 : Int) + (j0 : Int) = (N : Int) := ⟨30 + j0, by omega⟩
  have N0 : (30 : Int) ≤ (N : Int) := by omega
  have N1 : (N : Int) < 90 := by omega
  rw [hN]
  clear hN hj0
  (with_reducible refine (few_c A m q la 12 12 kx _ HLa.out rfl HKX.out hm).mono ?_)
  rintro e w1 ⟨gx, cx, rfl, hO, hb⟩
  rw [HX.out] at hO
  have HX1 := Lib.hid hO
  have HB1 := Lib.hid hb
  clear hO hb
  go_wp2_with fail
  (with_reducible refine (few_c B m2 q2 lb 12 12 ky _ ((HLb.out.below HB1.out).more HB1.out.size) rfl HKY.out hm2).mono ?_)
  rintro e w2 ⟨gy, cy, rfl, hO, hb⟩
  rw [HY.out] at hO
  have HX2 := Lib.hid (HX1.out.below hb HX1.out.lt)
  have HY2 := Lib.hid hO
  have HB2 := Lib.hid (bel_tr HB1.out hb)
  clear hO hb
  go_wp2_with fail
  (with_reducible refine (new_e (N : Int) N _ (by omega)).mono ?_)
  rintro e w3 ⟨g, d, rfl, hs, hg, hd, hb⟩
  have HG := Lib.hid (show w.heap.size ≤ g by have := HB2.out.size; omega)
  have HD := Lib.hid (show w.heap.size ≤ d by have := HB2.out.size; omega)
  have HNX := Lib.hid (show (gx ≠ g ∧ gx ≠ d) ∧ (gy ≠ g ∧ gy ≠ d) by have := HX2.out.lt; have := HY2.out.lt; omega)
  have HS3 := Lib.hid hs
  have HX3 := Lib.hid (HX2.out.below hb HX2.out.lt)
  have HY3 := Lib.hid (HY2.out.below hb HY2.out.lt)
  have HB3 := Lib.hid (bel_tr HB2.out hb)
  clear hs hg hd hb
  go_wp2_with fail
  (with_reducible refine (new_e (N : Int) N _ (by omega)).mono ?_)
  rintro e w4 ⟨g2, d2, rfl, hs, hg, hd, hb⟩
  have HG2 := Lib.hid (show w.heap.size ≤ g2 by have := HB3.out.size; omega)
  have HD2 := Lib.hid (show w.heap.size ≤ d2 by have := HB3.out.size; omega)
  have HNX2 := Lib.hid (show (gx ≠ g2 ∧ gx ≠ d2) ∧ (gy ≠ g2 ∧ gy ≠ d2) by have := HX3.out.lt; have := HY3.out.lt; omega)
  have HNT := Lib.hid (apart4 HS3.out.lt.1 HS3.out.lt.2 hg hd)
  have HS4 := Lib.hid (HS3.out.below hb)
  have HT4 := Lib.hid hs
  have HX4 := Lib.hid (HX3.out.below hb HX3.out.lt)
  have HY4 := Lib.hid (HY3.out.below hb HY3.out.lt)
  have HB4 := Lib.hid (bel_tr HB3.out hb)
  clear hs hg hd hb
  go_wp2_with fail
  (with_reducible refine (known6_c _).mono ?_)
  rintro e w5 ⟨rfl, hb⟩
  have HS5 := Lib.hid (HS4.out.below hb)
  have HT5 := Lib.hid (HT4.out.below hb)
  have HX5 := Lib.hid (HX4.out.below hb HX4.out.lt)
  have HY5 := Lib.hid (HY4.out.below hb HY4.out.lt)
  have HB5 := Lib.hid (bel_tr HB4.out hb)
  clear hb HX1 HB1 HX2 HY2 HB2 HS3 HX3 HY3 HB3 HS4 HT4 HX4 HY4 HB4
  go_wp2_with fail
  (with_reducible refine (pickB at' ((N : Int) - (kx : Int) - (ky : Int) + 1) _ (by omega) (by omega)).mono ?_)
  rintro e w' ⟨p, hp, rfl, rfl⟩
  go_wp2_with fail
  (with_reducible refine (pickB to' ((N : Int) - (p : Int) - (kx : Int) - (ky : Int) + 1) _ (by omega) (by omega)).mono ?_)
  rintro e w' ⟨r, hr, rfl, rfl⟩
  go_wp2_with fail
  obtain ⟨t, ht⟩ : ∃ t : Nat, (p : Int) + (kx : Int) + (r : Int) = (t : Int) := ⟨p + kx + r, by omega⟩
  rw [ht]
  have hpt : p + kx ≤ t := by omega
  have htn : t + ky ≤ N := by omega
  clear ht hr hp
  have HXl := Lib.hid HX5.out.len
  have HYl := Lib.hid HY5.out.len
  have HPT := Lib.hid hpt
  have HTN := Lib.hid htn
  obtain ⟨E, hE⟩ : ∃ E, spl (spl (List.replicate N 0) p X) t Y = E := ⟨_, rfl⟩
  have HE1 := Lib.hid hE
  have HE2 := Lib.hid (show spl (spl (List.replicate N 0) t Y) p X = E by rw [← hE]; exact (spl_comm (by rw [HXl.out]; exact hpt) (by rw [HYl.out, List.length_replicate]; exact htn)).symm)
  have HEx := Lib.hid (show (E.drop p).take kx = X by
    have e := spl_part (l := spl (List.replicate N 0) t Y) (b := X) (o := p) (by rw [spl_len (n := N) (by simp) (by rw [HYl.out]; exact htn), HXl.out]; omega)
    rw [HXl.out, HE2.out] at e
    exact e)
  have HEy := Lib.hid (show (E.drop t).take ky = Y by
    have e := spl_part (l := spl (List.replicate N 0) p X) (b := Y) (o := t) (by rw [spl_len (n := N) (by simp) (by rw [HXl.out]; omega), HYl.out]; exact htn)
    rw [HYl.out, hE] at e
    exact e)
  clear hE
  (with_reducible refine (write_free p (p : Int) _ kx cx X HS5.out HX5.out.bs rfl rfl rfl (by omega) (by omega) (by omega)).mono ?_)
  rintro e w6 ⟨rfl, hs, ht⟩
  have HS6 := Lib.hid hs
  have HT6 := Lib.hid (HT5.out.but ht (not2 HNT.out.1) (not2 HNT.out.2.1))
  have HB6 := Lib.hid (bel_but HB5.out ht HB5.out.size HG.out HD.out)
  have HX6 := Lib.hid (HX5.out.but ht (not2 HNX.out.1))
  have HY6 := Lib.hid (HY5.out.but ht (not2 HNX.out.2))
  clear hs ht HS5 HT5 HB5 HX5 HY5
  go_wp2_with fail
  (with_reducible refine (write_free t (t : Int) _ ky cy Y HS6.out HY6.out.bs rfl rfl rfl (by omega) (by omega) (by omega)).mono ?_)
  rintro e w7 ⟨rfl, hs, ht⟩
  rw [HE1.out] at hs
  have HS7 := Lib.hid hs
  have HT7 := Lib.hid (HT6.out.but ht (not2 HNT.out.1) (not2 HNT.out.2.1))
  have HB7 := Lib.hid (bel_but HB6.out ht HB6.out.size HG.out HD.out)
  have HX7 := Lib.hid (HX6.out.but ht (not2 HNX.out.1))
  have HY7 := Lib.hid (HY6.out.but ht (not2 HNX.out.2))
  clear hs ht HS6 HT6 HB6 HX6 HY6
  go_wp2_with fail
  (with_reducible refine (write_free t (t : Int) _ ky cy Y HT7.out HY7.out.bs rfl rfl rfl (by omega) (by omega) (by omega)).mono ?_)
  rintro e w8 ⟨rfl, hs, ht⟩
  have HT8 := Lib.hid hs
  have HS8 := Lib.hid (HS7.out.but ht (not2 HNT.out.2.2.1) (not2 HNT.out.2.2.2))
  have HB8 := Lib.hid (bel_but HB7.out ht HB7.out.size HG2.out HD2.out)
  have HX8 := Lib.hid (HX7.out.but ht (not2 HNX2.out.1))
  have HY8 := Lib.hid (HY7.out.but ht (not2 HNX2.out.2))
  clear hs ht HS7 HT7 HB7 HX7 HY7
  go_wp2_with fail
  (with_reducible refine (write_free p (p : Int) _ kx cx X HT8.out HX8.out.bs rfl rfl rfl (by omega) (by omega) (by omega)).mono ?_)
  rintro e w9 ⟨rfl, hs, ht⟩
  rw [HE2.out] at hs
  have HT9 := Lib.hid hs
  have HS9 := Lib.hid (HS8.out.but ht (not2 HNT.out.2.2.1) (not2 HNT.out.2.2.2))
  have HB9 := Lib.hid (bel_but HB8.out ht HB8.out.size HG2.out HD2.out)
  have HX9 := Lib.hid (HX8.out.but ht (not2 HNX2.out.1))
  have HY9 := Lib.hid (HY8.out.but ht (not2 HNX2.out.2))
  clear hs ht HS8 HT8 HB8 HX8 HY8
  go_wp2_with fail
  (with_reducible refine (pickB cut ((N : Int) + 1) _ (by omega) (by omega)).mono ?_)
  rintro e w' ⟨k, hk, rfl, rfl⟩
  have HEL := Lib.hid (show E.length = N from HS9.out.2.2.1)
  have hkn : k ≤ N := by omega
  have HKN := Lib.hid hkn
  have ekn : (N : Int) - (k : Int) = ((N - k : Nat) : Int) := by omega
  have HEK := Lib.hid ekn
  obtain ⟨F1, hF1⟩ : ∃ F, E.take k = F := ⟨_, rfl⟩
  obtain ⟨F2, hF2⟩ : ∃ F, (E.drop k).take (N - k) = F := ⟨_, rfl⟩
  have HPl := Lib.hid (show F1.length = k by rw [← hF1, List.length_take, HEL.out]; omega)
  have HQl := Lib.hid (show F2.length = N - k by rw [← hF2, List.length_take, List.length_drop, HEL.out]; omega)
  have hcat : (ByteArray.mk F1.toArray) ++ (ByteArray.mk F2.toArray) = ByteArray.mk E.toArray := by
    apply ByteArray.ext
    rw [ByteArray.data_append, ← hF1, ← hF2]
    simp only
    rw [List.append_toArray, two_parts E HEL.out]
  have hlim : ¬ 9223372036854775807 < F1.length + F2.length := by have := HPl.out; have := HQl.out; omega
  have HF1 := Lib.hid hF1
  have HF2 := Lib.hid hF2
  clear ekn hkn hF1 hF2
  go_wp2_with fail
  (with_reducible refine (read_e 0 k 0 (k : Int) F1 HS9.out rfl rfl rfl (by omega) (by rw [List.drop_zero]; exact HF1.out)).mono ?_)
  rintro e w10 ⟨q1, rfl, hr, hq9, hb⟩
  have HS10 := Lib.hid (HS9.out.below hb)
  have HT10 := Lib.hid (HT9.out.below hb)
  have HX10 := Lib.hid (HX9.out.below hb HX9.out.lt)
  have HY10 := Lib.hid (HY9.out.below hb HY9.out.lt)
  have HB10 := Lib.hid (bel_tr HB9.out hb)
  have HP10 := Lib.hid hr
  clear hr hq9 hb HS9 HT9 HX9 HY9 HB9
  go_wp2_with fail
  (with_reducible refine (read_e k (N - k) (k : Int) ((N : Int) - (k : Int)) F2 HS10.out rfl HEK.out rfl (by have := HKN.out; omega) HF2.out).mono ?_)
  rintro e w11 ⟨q2', rfl, hr, hq9, hb⟩
  have HS11 := Lib.hid (HS10.out.below hb)
  have HT11 := Lib.hid (HT10.out.below hb)
  have HX11 := Lib.hid (HX10.out.below hb HX10.out.lt)
  have HY11 := Lib.hid (HY10.out.below hb HY10.out.lt)
  have HB11 := Lib.hid (bel_tr HB10.out hb)
  have HP11 := Lib.hid (HP10.out.below hb)
  have HQ11 := Lib.hid hr
  clear HP10
  clear hr hq9 hb HS10 HT10 HX10 HY10 HB10
  go_wp2_with fail
  (with_reducible refine (read_e 0 N 0 (N : Int) E HT11.out rfl rfl rfl (by omega) (by rw [List.drop_zero]; exact List.take_of_length_le (by rw [HEL.out]; exact Nat.le_refl _))).mono ?_)
  rintro e w12 ⟨q3, rfl, hr, hq9, hb⟩
  have HS12 := Lib.hid (HS11.out.below hb)
  have HT12 := Lib.hid (HT11.out.below hb)
  have HX12 := Lib.hid (HX11.out.below hb HX11.out.lt)
  have HY12 := Lib.hid (HY11.out.below hb HY11.out.lt)
  have HB12 := Lib.hid (bel_tr HB11.out hb)
  have HP12 := Lib.hid (HP11.out.below hb)
  have HQ12 := Lib.hid (HQ11.out.below hb)
  have HR12 := Lib.hid hr
  clear HP11 HQ11
  clear hr hq9 hb HS11 HT11 HX11 HY11 HB11
  have HBd := Lib.hid (show Below w12.heap.size w12 w12.drew from (Below.refl _ _).drew)
  have p0 : (0 : Int) ≤ (p : Int) := by omega
  have t0 : (0 : Int) ≤ (t : Int) := by omega
  obtain ⟨sp, hsp⟩ : ∃ s : Nat, p + kx = s := ⟨_, rfl⟩
  obtain ⟨st, hst⟩ : ∃ s : Nat, t + ky = s := ⟨_, rfl⟩
  have hw1 : IntKind.i64.wrap ((p : Int) + (kx : Int)) = (sp : Int) := by rw [IntKind.wrap_i64]; omega
  have hw2 : IntKind.i64.wrap ((t : Int) + (ky : Int)) = (st : Int) := by rw [IntKind.wrap_i64]; omega
  have s0 : (0 : Int) ≤ (sp : Int) := by omega
  have s1 : (sp : Int) ≤ (N : Int) := by omega
  have s2 : p ≤ sp := by omega
  have s3 : sp - p = kx := by omega
  have s5 : (0 : Int) ≤ (st : Int) := by omega
  have s6 : (st : Int) ≤ (N : Int) := by omega
  have s7 : t ≤ st := by omega
  have s8 : st - t = ky := by omega
  have HS1 := Lib.hid (((HR12.out.bs HEL.out).cut (k := p) (by omega)).head (k := kx) (by omega))
  have HS2 := Lib.hid (((HR12.out.bs HEL.out).cut (k := t) (by omega)).head (k := ky) (by omega))
  rw [HEx.out] at HS1
  rw [HEy.out] at HS2
  clear hsp hst
  by_cases hc1 : N = p
  · replace HS1 := Lib.hid (show Bs w12 w12.heap.size (some ⟨q3, 0, none⟩) kx (N - p) X by have := HS1.out; rwa [if_pos hc1] at this)
    by_cases hc2 : N = t
    · replace HS2 := Lib.hid (show Bs w12 w12.heap.size (some ⟨q3, 0, none⟩) ky (N - t) Y by have := HS2.out; rwa [if_pos hc2] at this)
      subst hc1
      subst hc2
      rw [Nat.sub_self] at HS1 HS2
      as_aux_lemma =>
      go_upto_region 16 with fail
      refine wp_region_ord (S := fun V => Below w12.heap.size w12 V) (by kernel_rfl) ?_
      refine ord_take (v := ?_) (i := 0) (fuel := 43) (by simp; rfl) (by kernel_rfl) (by kernel_rfl) (by kernel_rfl) (Or.inl ⟨by rfl, fun w' hSw => ?_⟩) HBd.out ?_
      rotate_left
      · go_simp
        all_goals with_reducible rfl
      simp only [Act.put, List.setIfInBounds_toArray, List.set_cons_zero, List.set_cons_succ]
      refine ord_take (v := ?_) (i := 1) (fuel := 42) (by simp; rfl) (by kernel_rfl) (by kernel_rfl) (by kernel_rfl) (Or.inl ⟨by rfl, fun w' hSw => ?_⟩) HBd.out ?_
      rotate_left
      · go_simp
        all_goals with_reducible rfl
      simp only [Act.put, List.setIfInBounds_toArray, List.set_cons_zero, List.set_cons_succ]
      refine ord_take (v := ?_) (i := 2) (fuel := 41) (by simp; rfl) (by kernel_rfl) (by kernel_rfl) (by kernel_rfl) (Or.inl ⟨by rfl, fun w' hSw => ?_⟩) HBd.out ?_
      rotate_left
      · go_simp
        all_goals with_reducible rfl
      simp only [Act.put, List.setIfInBounds_toArray, List.set_cons_zero, List.set_cons_succ]
      refine ord_take (v := ?_) (i := 3) (fuel := 40) (by simp; rfl) (by kernel_rfl) (by kernel_rfl) (by kernel_rfl) (Or.inl ⟨by rfl, fun w' hSw => ?_⟩) HBd.out ?_
      rotate_left
      · go_simp
        all_goals with_reducible rfl
      simp only [Act.put, List.setIfInBounds_toArray, List.set_cons_zero, List.set_cons_succ]
      refine ord_take (v := ?_) (i := 4) (fuel := 39) (by simp; rfl) (by kernel_rfl) (by kernel_rfl) (by kernel_rfl) (Or.inl ⟨by rfl, fun w' hSw => ?_⟩) HBd.out ?_
      rotate_left
      · go_simp
        all_goals with_reducible rfl
      simp only [Act.put, List.setIfInBounds_toArray, List.set_cons_zero, List.set_cons_succ]
      refine ord_take (v := ?_) (i := 5) (fuel := 38) (by simp; rfl) (by kernel_rfl) (by kernel_rfl) (by kernel_rfl) (Or.inl ⟨by rfl, fun w' hSw => ?_⟩) HBd.out ?_
      rotate_left
      · go_simp
        all_goals with_reducible rfl
      simp only [Act.put, List.setIfInBounds_toArray, List.set_cons_zero, List.set_cons_succ]
      refine ord_take (v := ?_) (i := 6) (fuel := 37) (by simp; rfl) (by kernel_rfl) (by kernel_rfl) (by kernel_rfl) (Or.inl ⟨by rfl, fun w' hSw => ?_⟩) HBd.out ?_
      rotate_left
      · go_simp
        all_goals with_reducible rfl
      simp only [Act.put, List.setIfInBounds_toArray, List.set_cons_zero, List.set_cons_succ]
      refine ord_take (v := ?_) (i := 7) (fuel := 36) (by simp; rfl) (by kernel_rfl) (by kernel_rfl) (by kernel_rfl) (Or.inl ⟨by rfl, fun w' hSw => ?_⟩) HBd.out ?_
      rotate_left
      · go_simp
        all_goals with_reducible rfl
      simp only [Act.put, List.setIfInBounds_toArray, List.set_cons_zero, List.set_cons_succ]
      refine ord_take (v := ?_) (i := 8) (fuel := 35) (by simp; rfl) (by kernel_rfl) (by kernel_rfl) (by kernel_rfl) (Or.inl ⟨by rfl, fun w' hSw => ?_⟩) HBd.out ?_
      rotate_left
      · go_simp
        all_goals with_reducible rfl
      simp only [Act.put, List.setIfInBounds_toArray, List.set_cons_zero, List.set_cons_succ]
      refine ord_take (v := ?_) (i := 9) (fuel := 34) (by simp; rfl) (by kernel_rfl) (by kernel_rfl) (by kernel_rfl) (Or.inl ⟨by rfl, fun w' hSw => ?_⟩) HBd.out ?_
      rotate_left
      · dsimp only at hSw
        have cc := str_run ((HP12.out.below hSw).bs HPl.out)
        go_simp
        all_goals with_reducible rfl
      simp only [Act.put, List.setIfInBounds_toArray, List.set_cons_zero, List.set_cons_succ]
      refine ord_take (v := ?_) (i := 10) (fuel := 33) (by simp; rfl) (by kernel_rfl) (by kernel_rfl) (by kernel_rfl) (Or.inl ⟨by rfl, fun w' hSw => ?_⟩) HBd.out ?_
      rotate_left
      · go_simp
        all_goals with_reducible rfl
      simp only [Act.put, List.setIfInBounds_toArray, List.set_cons_zero, List.set_cons_succ]
      refine ord_take (v := ?_) (i := 11) (fuel := 32) (by simp; rfl) (by kernel_rfl) (by kernel_rfl) (by kernel_rfl) (Or.inl ⟨by rfl, fun w' hSw => ?_⟩) HBd.out ?_
      rotate_left
      · dsimp only at hSw
        have cc := str_run ((HQ12.out.below hSw).bs HQl.out)
        go_simp
        all_goals with_reducible rfl
      simp only [Act.put, List.setIfInBounds_toArray, List.set_cons_zero, List.set_cons_succ]
      refine ord_take (v := ?_) (i := 12) (fuel := 31) (by simp; rfl) (by kernel_rfl) (by kernel_rfl) (by kernel_rfl) (Or.inl ⟨by rfl, fun w' hSw => ?_⟩) HBd.out ?_
      rotate_left
      · go_simp
        all_goals with_reducible rfl
      simp only [Act.put, List.setIfInBounds_toArray, List.set_cons_zero, List.set_cons_succ]
      refine ord_take (v := ?_) (i := 13) (fuel := 30) (by simp; rfl) (by kernel_rfl) (by kernel_rfl) (by kernel_rfl) (Or.inl ⟨by rfl, fun w' hSw => ?_⟩) HBd.out ?_
      rotate_left
      · go_simp
        all_goals with_reducible rfl
      simp only [Act.put, List.setIfInBounds_toArray, List.set_cons_zero, List.set_cons_succ]
      refine ord_take (v := ?_) (i := 14) (fuel := 29) (by simp; rfl) (by kernel_rfl) (by kernel_rfl) (by kernel_rfl) (Or.inl ⟨by rfl, fun w' hSw => ?_⟩) HBd.out ?_
      rotate_left
      · dsimp only at hSw
        have cc := str_run ((HR12.out.below hSw).bs HEL.out)
        go_simp
        all_goals with_reducible rfl
      simp only [Act.put, List.setIfInBounds_toArray, List.set_cons_zero, List.set_cons_succ]
      refine ord_take (v := ?_) (i := 15) (fuel := 28) (by simp; rfl) (by kernel_rfl) (by kernel_rfl) (by kernel_rfl) (Or.inl ⟨by rfl, fun w' hSw => ?_⟩) HBd.out ?_
      rotate_left
      · go_simp
        all_goals with_reducible rfl
      simp only [Act.put, List.setIfInBounds_toArray, List.set_cons_zero, List.set_cons_succ]
      refine ord_take (v := ?_) (i := 16) (fuel := 27) (by simp; rfl) (by kernel_rfl) (by kernel_rfl) (by kernel_rfl) (Or.inl ⟨by rfl, fun w' hSw => ?_⟩) HBd.out ?_
      rotate_left
      · go_simp
        all_goals with_reducible rfl
      simp only [Act.put, List.setIfInBounds_toArray, List.set_cons_zero, List.set_cons_succ]
      refine ord_take (v := ?_) (i := 17) (fuel := 26) (by simp; rfl) (by kernel_rfl) (by kernel_rfl) (by kernel_rfl) (Or.inl ⟨by rfl, fun w' hSw => ?_⟩) HBd.out ?_
      rotate_left
      · go_simp
        all_goals with_reducible rfl
      simp only [Act.put, List.setIfInBounds_toArray, List.set_cons_zero, List.set_cons_succ]
      refine ord_take (v := ?_) (i := 18) (fuel := 25) (by simp; rfl) (by kernel_rfl) (by kernel_rfl) (by kernel_rfl) (Or.inl ⟨by rfl, fun w' hSw => ?_⟩) HBd.out ?_
      rotate_left
      · go_simp
        all_goals with_reducible rfl
      simp only [Act.put, List.setIfInBounds_toArray, List.set_cons_zero, List.set_cons_succ]
      refine ord_take (v := ?_) (i := 19) (fuel := 24) (by simp; rfl) (by kernel_rfl) (by kernel_rfl) (by kernel_rfl) (Or.inl ⟨by rfl, fun w' hSw => ?_⟩) HBd.out ?_
      rotate_left
      · go_simp
        all_goals with_reducible rfl
      simp only [Act.put, List.setIfInBounds_toArray, List.set_cons_zero, List.set_cons_succ]
      refine ord_take (v := ?_) (i := 20) (fuel := 23) (by simp; rfl) (by kernel_rfl) (by kernel_rfl) (by kernel_rfl) (Or.inl ⟨by rfl, fun w' hSw => ?_⟩) HBd.out ?_
      rotate_left
      · go_simp
        all_goals with_reducible rfl
      simp only [Act.put, List.setIfInBounds_toArray, List.set_cons_zero, List.set_cons_succ]
      refine ord_take (v := ?_) (i := 21) (fuel := 22) (by simp; rfl) (by kernel_rfl) (by kernel_rfl) (by kernel_rfl) (Or.inl ⟨by rfl, fun w' hSw => ?_⟩) HBd.out ?_
      rotate_left
      · go_simp
        all_goals with_reducible rfl
      simp only [Act.put, List.setIfInBounds_toArray, List.set_cons_zero, List.set_cons_succ]
      refine ord_take (v := ?_) (i := 22) (fuel := 21) (by simp; rfl) (by kernel_rfl) (by kernel_rfl) (by kernel_rfl) (Or.inl ⟨by rfl, fun w' hSw => ?_⟩) HBd.out ?_
      rotate_left
      · go_simp
        all_goals with_reducible rfl
      simp only [Act.put, List.setIfInBounds_toArray, List.set_cons_zero, List.set_cons_succ]
      refine ord_take (v := ?_) (i := 23) (fuel := 20) (by simp; rfl) (by kernel_rfl) (by kernel_rfl) (by kernel_rfl) (Or.inl ⟨by rfl, fun w' hSw => ?_⟩) HBd.out ?_
      rotate_left
      · go_simp
        all_goals with_reducible rfl
      simp only [Act.put, List.setIfInBounds_toArray, List.set_cons_zero, List.set_cons_succ]
      refine ord_take (v := ?_) (i := 24) (fuel := 19) (by simp; rfl) (by kernel_rfl) (by kernel_rfl) (by kernel_rfl) (Or.inl ⟨by rfl, fun w' hSw => ?_⟩) HBd.out ?_
      rotate_left
      · go_simp
        all_goals with_reducible rfl
      simp only [Act.put, List.setIfInBounds_toArray, List.set_cons_zero, List.set_cons_succ]
      refine ord_take (v := ?_) (i := 25) (fuel := 18) (by simp; rfl) (by kernel_rfl) (by kernel_rfl) (by kernel_rfl) (Or.inl ⟨by rfl, fun w' hSw => ?_⟩) HBd.out ?_
      rotate_left
      · dsimp only at hSw
        have cc := str_run (HS1.out.below hSw)
        go_simp
        all_goals with_reducible rfl
      simp only [Act.put, List.setIfInBounds_toArray, List.set_cons_zero, List.set_cons_succ]
      refine ord_take (v := ?_) (i := 26) (fuel := 17) (by simp; rfl) (by kernel_rfl) (by kernel_rfl) (by kernel_rfl) (Or.inl ⟨by rfl, fun w' hSw => ?_⟩) HBd.out ?_
      rotate_left
      · go_simp
        all_goals with_reducible rfl
      simp only [Act.put, List.setIfInBounds_toArray, List.set_cons_zero, List.set_cons_succ]
      refine ord_take (v := ?_) (i := 27) (fuel := 16) (by simp; rfl) (by kernel_rfl) (by kernel_rfl) (by kernel_rfl) (Or.inl ⟨by rfl, fun w' hSw => ?_⟩) HBd.out ?_
      rotate_left
      · dsimp only at hSw
        have cc := str_run (HX12.out.bs.below hSw)
        go_simp
        all_goals with_reducible rfl
      simp only [Act.put, List.setIfInBounds_toArray, List.set_cons_zero, List.set_cons_succ]
      refine ord_take (v := ?_) (i := 28) (fuel := 15) (by simp; rfl) (by kernel_rfl) (by kernel_rfl) (by kernel_rfl) (Or.inl ⟨by rfl, fun w' hSw => ?_⟩) HBd.out ?_
      rotate_left
      · go_simp
        all_goals with_reducible rfl
      simp only [Act.put, List.setIfInBounds_toArray, List.set_cons_zero, List.set_cons_succ]
      refine ord_take (v := ?_) (i := 29) (fuel := 14) (by simp; rfl) (by kernel_rfl) (by kernel_rfl) (by kernel_rfl) (Or.inl ⟨by rfl, fun w' hSw => ?_⟩) HBd.out ?_
      rotate_left
      · go_simp
        all_goals with_reducible rfl
      simp only [Act.put, List.setIfInBounds_toArray, List.set_cons_zero, List.set_cons_succ]
      refine ord_take (v := ?_) (i := 30) (fuel := 13) (by simp; rfl) (by kernel_rfl) (by kernel_rfl) (by kernel_rfl) (Or.inl ⟨by rfl, fun w' hSw => ?_⟩) HBd.out ?_
      rotate_left
      · go_simp
        all_goals with_reducible rfl
      simp only [Act.put, List.setIfInBounds_toArray, List.set_cons_zero, List.set_cons_succ]
      refine ord_take (v := ?_) (i := 31) (fuel := 12) (by simp; rfl) (by kernel_rfl) (by kernel_rfl) (by kernel_rfl) (Or.inl ⟨by rfl, fun w' hSw => ?_⟩) HBd.out ?_
      rotate_left
      · go_simp
        all_goals with_reducible rfl
      simp only [Act.put, List.setIfInBounds_toArray, List.set_cons_zero, List.set_cons_succ]
      refine ord_take (v := ?_) (i := 32) (fuel := 11) (by simp; rfl) (by kernel_rfl) (by kernel_rfl) (by kernel_rfl) (Or.inl ⟨by rfl, fun w' hSw => ?_⟩) HBd.out ?_
      rotate_left
      · go_simp
        all_goals with_reducible rfl
      simp only [Act.put, List.setIfInBounds_toArray, List.set_cons_zero, List.set_cons_succ]
      refine ord_take (v := ?_) (i := 33) (fuel := 10) (by simp; rfl) (by kernel_rfl) (by kernel_rfl) (by kernel_rfl) (Or.inl ⟨by rfl, fun w' hSw => ?_⟩) HBd.out ?_
      rotate_left
      · go_simp
        all_goals with_reducible rfl
      simp only [Act.put, List.setIfInBounds_toArray, List.set_cons_zero, List.set_cons_succ]
      refine ord_take (v := ?_) (i := 34) (fuel := 9) (by simp; rfl) (by kernel_rfl) (by kernel_rfl) (by kernel_rfl) (Or.inl ⟨by rfl, fun w' hSw => ?_⟩) HBd.out ?_
      rotate_left
      · go_simp
        all_goals with_reducible rfl
      simp only [Act.put, List.setIfInBounds_toArray, List.set_cons_zero, List.set_cons_succ]
      refine ord_take (v := ?_) (i := 35) (fuel := 8) (by simp; rfl) (by kernel_rfl) (by kernel_rfl) (by kernel_rfl) (Or.inl ⟨by rfl, fun w' hSw => ?_⟩) HBd.out ?_
      rotate_left
      · go_simp
        all_goals with_reducible rfl
      simp only [Act.put, List.setIfInBounds_toArray, List.set_cons_zero, List.set_cons_succ]
      refine ord_take (v := ?_) (i := 36) (fuel := 7) (by simp; rfl) (by kernel_rfl) (by kernel_rfl) (by kernel_rfl) (Or.inl ⟨by rfl, fun w' hSw => ?_⟩) HBd.out ?_
      rotate_left
      · go_simp
        all_goals with_reducible rfl
      simp only [Act.put, List.setIfInBounds_toArray, List.set_cons_zero, List.set_cons_succ]
      refine ord_take (v := ?_) (i := 37) (fuel := 6) (by simp; rfl) (by kernel_rfl) (by kernel_rfl) (by kernel_rfl) (Or.inl ⟨by rfl, fun w' hSw => ?_⟩) HBd.out ?_
      rotate_left
      · go_simp
        all_goals with_reducible rfl
      simp only [Act.put, List.setIfInBounds_toArray, List.set_cons_zero, List.set_cons_succ]
      refine ord_take (v := ?_) (i := 38) (fuel := 5) (by simp; rfl) (by kernel_rfl) (by kernel_rfl) (by kernel_rfl) (Or.inl ⟨by rfl, fun w' hSw => ?_⟩) HBd.out ?_
      rotate_left
      · dsimp only at hSw
        have cc := str_run (HS2.out.below hSw)
        go_simp
        all_goals with_reducible rfl
      simp only [Act.put, List.setIfInBounds_toArray, List.set_cons_zero, List.set_cons_succ]
      refine ord_take (v := ?_) (i := 39) (fuel := 4) (by simp; rfl) (by kernel_rfl) (by kernel_rfl) (by kernel_rfl) (Or.inl ⟨by rfl, fun w' hSw => ?_⟩) HBd.out ?_
      rotate_left
      · go_simp
        all_goals with_reducible rfl
      simp only [Act.put, List.setIfInBounds_toArray, List.set_cons_zero, List.set_cons_succ]
      refine ord_take (v := ?_) (i := 40) (fuel := 3) (by simp; rfl) (by kernel_rfl) (by kernel_rfl) (by kernel_rfl) (Or.inl ⟨by rfl, fun w' hSw => ?_⟩) HBd.out ?_
      rotate_left
      · dsimp only at hSw
        have cc := str_run (HY12.out.bs.below hSw)
        go_simp
        all_goals with_reducible rfl
      simp only [Act.put, List.setIfInBounds_toArray, List.set_cons_zero, List.set_cons_succ]
      refine ord_take (v := ?_) (i := 41) (fuel := 2) (by simp; rfl) (by kernel_rfl) (by kernel_rfl) (by kernel_rfl) (Or.inl ⟨by rfl, fun w' hSw => ?_⟩) HBd.out ?_
      rotate_left
      · go_simp
        all_goals with_reducible rfl
      simp only [Act.put, List.setIfInBounds_toArray, List.set_cons_zero, List.set_cons_succ]
      refine ord_take (v := ?_) (i := 42) (fuel := 1) (by simp; rfl) (by kernel_rfl) (by kernel_rfl) (by kernel_rfl) (Or.inl ⟨by rfl, fun w' hSw => ?_⟩) HBd.out ?_
      rotate_left
      · go_simp
        all_goals with_reducible rfl
      simp only [Act.put, List.setIfInBounds_toArray, List.set_cons_zero, List.set_cons_succ]
      refine ord_take (v := ?_) (i := 43) (fuel := 0) (by simp; rfl) (by kernel_rfl) (by kernel_rfl) (by kernel_rfl) (Or.inl ⟨by rfl, fun w' hSw => ?_⟩) HBd.out ?_
      rotate_left
      · go_simp
        all_goals with_reducible rfl
      simp only [Act.put, List.setIfInBounds_toArray, List.set_cons_zero, List.set_cons_succ]
      refine ord_done (by kernel_rfl) ?_ _
      go_wp2
      go_ret
      exact ⟨rfl, bel_tr HB12.out HBd.out⟩
    · replace HS2 := Lib.hid (show Bs w12 w12.heap.size (some ⟨q3, t, none⟩) ky (N - t) Y by have := HS2.out; rw [if_neg hc2] at this; simpa [Addr.add_lit] using this)
      exfalso
      omega
  · replace HS1 := Lib.hid (show Bs w12 w12.heap.size (some ⟨q3, p, none⟩) kx (N - p) X by have := HS1.out; rw [if_neg hc1] at this; simpa [Addr.add_lit] using this)
    by_cases hc2 : N = t
    · replace HS2 := Lib.hid (show Bs w12 w12.heap.size (some ⟨q3, 0, none⟩) ky (N - t) Y by have := HS2.out; rwa [if_pos hc2] at this)
      subst hc2
      rw [Nat.sub_self] at HS2
      as_aux_lemma =>
      go_upto_region 16 with fail
      refine wp_region_ord (S := fun V => Below w12.heap.size w12 V) (by kernel_rfl) ?_
      refine ord_take (v := ?_) (i := 0) (fuel := 43) (by simp; rfl) (by kernel_rfl) (by kernel_rfl) (by kernel_rfl) (Or.inl ⟨by rfl, fun w' hSw => ?_⟩) HBd.out ?_
      rotate_left
      · go_simp
        all_goals with_reducible rfl
      simp only [Act.put, List.setIfInBounds_toArray, List.set_cons_zero, List.set_cons_succ]
      refine ord_take (v := ?_) (i := 1) (fuel := 42) (by simp; rfl) (by kernel_rfl) (by kernel_rfl) (by kernel_rfl) (Or.inl ⟨by rfl, fun w' hSw => ?_⟩) HBd.out ?_
      rotate_left
      · go_simp
        all_goals with_reducible rfl
      simp only [Act.put, List.setIfInBounds_toArray, List.set_cons_zero, List.set_cons_succ]
      refine ord_take (v := ?_) (i := 2) (fuel := 41) (by simp; rfl) (by kernel_rfl) (by kernel_rfl) (by kernel_rfl) (Or.inl ⟨by rfl, fun w' hSw => ?_⟩) HBd.out ?_
      rotate_left
      · go_simp
        all_goals with_reducible rfl
      simp only [Act.put, List.setIfInBounds_toArray, List.set_cons_zero, List.set_cons_succ]
      refine ord_take (v := ?_) (i := 3) (fuel := 40) (by simp; rfl) (by kernel_rfl) (by kernel_rfl) (by kernel_rfl) (Or.inl ⟨by rfl, fun w' hSw => ?_⟩) HBd.out ?_
      rotate_left
      · go_simp
        all_goals with_reducible rfl
      simp only [Act.put, List.setIfInBounds_toArray, List.set_cons_zero, List.set_cons_succ]
      refine ord_take (v := ?_) (i := 4) (fuel := 39) (by simp; rfl) (by kernel_rfl) (by kernel_rfl) (by kernel_rfl) (Or.inl ⟨by rfl, fun w' hSw => ?_⟩) HBd.out ?_
      rotate_left
      · go_simp
        all_goals with_reducible rfl
      simp only [Act.put, List.setIfInBounds_toArray, List.set_cons_zero, List.set_cons_succ]
      refine ord_take (v := ?_) (i := 5) (fuel := 38) (by simp; rfl) (by kernel_rfl) (by kernel_rfl) (by kernel_rfl) (Or.inl ⟨by rfl, fun w' hSw => ?_⟩) HBd.out ?_
      rotate_left
      · go_simp
        all_goals with_reducible rfl
      simp only [Act.put, List.setIfInBounds_toArray, List.set_cons_zero, List.set_cons_succ]
      refine ord_take (v := ?_) (i := 6) (fuel := 37) (by simp; rfl) (by kernel_rfl) (by kernel_rfl) (by kernel_rfl) (Or.inl ⟨by rfl, fun w' hSw => ?_⟩) HBd.out ?_
      rotate_left
      · go_simp
        all_goals with_reducible rfl
      simp only [Act.put, List.setIfInBounds_toArray, List.set_cons_zero, List.set_cons_succ]
      refine ord_take (v := ?_) (i := 7) (fuel := 36) (by simp; rfl) (by kernel_rfl) (by kernel_rfl) (by kernel_rfl) (Or.inl ⟨by rfl, fun w' hSw => ?_⟩) HBd.out ?_
      rotate_left
      · go_simp
        all_goals with_reducible rfl
      simp only [Act.put, List.setIfInBounds_toArray, List.set_cons_zero, List.set_cons_succ]
      refine ord_take (v := ?_) (i := 8) (fuel := 35) (by simp; rfl) (by kernel_rfl) (by kernel_rfl) (by kernel_rfl) (Or.inl ⟨by rfl, fun w' hSw => ?_⟩) HBd.out ?_
      rotate_left
      · go_simp
        all_goals with_reducible rfl
      simp only [Act.put, List.setIfInBounds_toArray, List.set_cons_zero, List.set_cons_succ]
      refine ord_take (v := ?_) (i := 9) (fuel := 34) (by simp; rfl) (by kernel_rfl) (by kernel_rfl) (by kernel_rfl) (Or.inl ⟨by rfl, fun w' hSw => ?_⟩) HBd.out ?_
      rotate_left
      · dsimp only at hSw
        have cc := str_run ((HP12.out.below hSw).bs HPl.out)
        go_simp
        all_goals with_reducible rfl
      simp only [Act.put, List.setIfInBounds_toArray, List.set_cons_zero, List.set_cons_succ]
      refine ord_take (v := ?_) (i := 10) (fuel := 33) (by simp; rfl) (by kernel_rfl) (by kernel_rfl) (by kernel_rfl) (Or.inl ⟨by rfl, fun w' hSw => ?_⟩) HBd.out ?_
      rotate_left
      · go_simp
        all_goals with_reducible rfl
      simp only [Act.put, List.setIfInBounds_toArray, List.set_cons_zero, List.set_cons_succ]
      refine ord_take (v := ?_) (i := 11) (fuel := 32) (by simp; rfl) (by kernel_rfl) (by kernel_rfl) (by kernel_rfl) (Or.inl ⟨by rfl, fun w' hSw => ?_⟩) HBd.out ?_
      rotate_left
      · dsimp only at hSw
        have cc := str_run ((HQ12.out.below hSw).bs HQl.out)
        go_simp
        all_goals with_reducible rfl
      simp only [Act.put, List.setIfInBounds_toArray, List.set_cons_zero, List.set_cons_succ]
      refine ord_take (v := ?_) (i := 12) (fuel := 31) (by simp; rfl) (by kernel_rfl) (by kernel_rfl) (by kernel_rfl) (Or.inl ⟨by rfl, fun w' hSw => ?_⟩) HBd.out ?_
      rotate_left
      · go_simp
        all_goals with_reducible rfl
      simp only [Act.put, List.setIfInBounds_toArray, List.set_cons_zero, List.set_cons_succ]
      refine ord_take (v := ?_) (i := 13) (fuel := 30) (by simp; rfl) (by kernel_rfl) (by kernel_rfl) (by kernel_rfl) (Or.inl ⟨by rfl, fun w' hSw => ?_⟩) HBd.out ?_
      rotate_left
      · go_simp
        all_goals with_reducible rfl
      simp only [Act.put, List.setIfInBounds_toArray, List.set_cons_zero, List.set_cons_succ]
      refine ord_take (v := ?_) (i := 14) (fuel := 29) (by simp; rfl) (by kernel_rfl) (by kernel_rfl) (by kernel_rfl) (Or.inl ⟨by rfl, fun w' hSw => ?_⟩) HBd.out ?_
      rotate_left
      · dsimp only at hSw
        have cc := str_run ((HR12.out.below hSw).bs HEL.out)
        go_simp
        all_goals with_reducible rfl
      simp only [Act.put, List.setIfInBounds_toArray, List.set_cons_zero, List.set_cons_succ]
      refine ord_take (v := ?_) (i := 15) (fuel := 28) (by simp; rfl) (by kernel_rfl) (by kernel_rfl) (by kernel_rfl) (Or.inl ⟨by rfl, fun w' hSw => ?_⟩) HBd.out ?_
      rotate_left
      · go_simp
        all_goals with_reducible rfl
      simp only [Act.put, List.setIfInBounds_toArray, List.set_cons_zero, List.set_cons_succ]
      refine ord_take (v := ?_) (i := 16) (fuel := 27) (by simp; rfl) (by kernel_rfl) (by kernel_rfl) (by kernel_rfl) (Or.inl ⟨by rfl, fun w' hSw => ?_⟩) HBd.out ?_
      rotate_left
      · go_simp
        all_goals with_reducible rfl
      simp only [Act.put, List.setIfInBounds_toArray, List.set_cons_zero, List.set_cons_succ]
      refine ord_take (v := ?_) (i := 17) (fuel := 26) (by simp; rfl) (by kernel_rfl) (by kernel_rfl) (by kernel_rfl) (Or.inl ⟨by rfl, fun w' hSw => ?_⟩) HBd.out ?_
      rotate_left
      · go_simp
        all_goals with_reducible rfl
      simp only [Act.put, List.setIfInBounds_toArray, List.set_cons_zero, List.set_cons_succ]
      refine ord_take (v := ?_) (i := 18) (fuel := 25) (by simp; rfl) (by kernel_rfl) (by kernel_rfl) (by kernel_rfl) (Or.inl ⟨by rfl, fun w' hSw => ?_⟩) HBd.out ?_
      rotate_left
      · go_simp
        all_goals with_reducible rfl
      simp only [Act.put, List.setIfInBounds_toArray, List.set_cons_zero, List.set_cons_succ]
      refine ord_take (v := ?_) (i := 19) (fuel := 24) (by simp; rfl) (by kernel_rfl) (by kernel_rfl) (by kernel_rfl) (Or.inl ⟨by rfl, fun w' hSw => ?_⟩) HBd.out ?_
      rotate_left
      · go_simp
        all_goals with_reducible rfl
      simp only [Act.put, List.setIfInBounds_toArray, List.set_cons_zero, List.set_cons_succ]
      refine ord_take (v := ?_) (i := 20) (fuel := 23) (by simp; rfl) (by kernel_rfl) (by kernel_rfl) (by kernel_rfl) (Or.inl ⟨by rfl, fun w' hSw => ?_⟩) HBd.out ?_
      rotate_left
      · go_simp
        all_goals with_reducible rfl
      simp only [Act.put, List.setIfInBounds_toArray, List.set_cons_zero, List.set_cons_succ]
      refine ord_take (v := ?_) (i := 21) (fuel := 22) (by simp; rfl) (by kernel_rfl) (by kernel_rfl) (by kernel_rfl) (Or.inl ⟨by rfl, fun w' hSw => ?_⟩) HBd.out ?_
      rotate_left
      · go_simp
        all_goals with_reducible rfl
      simp only [Act.put, List.setIfInBounds_toArray, List.set_cons_zero, List.set_cons_succ]
      refine ord_take (v := ?_) (i := 22) (fuel := 21) (by simp; rfl) (by kernel_rfl) (by kernel_rfl) (by kernel_rfl) (Or.inl ⟨by rfl, fun w' hSw => ?_⟩) HBd.out ?_
      rotate_left
      · go_simp
        all_goals with_reducible rfl
      simp only [Act.put, List.setIfInBounds_toArray, List.set_cons_zero, List.set_cons_succ]
      refine ord_take (v := ?_) (i := 23) (fuel := 20) (by simp; rfl) (by kernel_rfl) (by kernel_rfl) (by kernel_rfl) (Or.inl ⟨by rfl, fun w' hSw => ?_⟩) HBd.out ?_
      rotate_left
      · go_simp
        all_goals with_reducible rfl
      simp only [Act.put, List.setIfInBounds_toArray, List.set_cons_zero, List.set_cons_succ]
      refine ord_take (v := ?_) (i := 24) (fuel := 19) (by simp; rfl) (by kernel_rfl) (by kernel_rfl) (by kernel_rfl) (Or.inl ⟨by rfl, fun w' hSw => ?_⟩) HBd.out ?_
      rotate_left
      · go_simp
        all_goals with_reducible rfl
      simp only [Act.put, List.setIfInBounds_toArray, List.set_cons_zero, List.set_cons_succ]
      refine ord_take (v := ?_) (i := 25) (fuel := 18) (by simp; rfl) (by kernel_rfl) (by kernel_rfl) (by kernel_rfl) (Or.inl ⟨by rfl, fun w' hSw => ?_⟩) HBd.out ?_
      rotate_left
      · dsimp only at hSw
        have cc := str_run (HS1.out.below hSw)
        go_simp
        all_goals with_reducible rfl
      simp only [Act.put, List.setIfInBounds_toArray, List.set_cons_zero, List.set_cons_succ]
      refine ord_take (v := ?_) (i := 26) (fuel := 17) (by simp; rfl) (by kernel_rfl) (by kernel_rfl) (by kernel_rfl) (Or.inl ⟨by rfl, fun w' hSw => ?_⟩) HBd.out ?_
      rotate_left
      · go_simp
        all_goals with_reducible rfl
      simp only [Act.put, List.setIfInBounds_toArray, List.set_cons_zero, List.set_cons_succ]
      refine ord_take (v := ?_) (i := 27) (fuel := 16) (by simp; rfl) (by kernel_rfl) (by kernel_rfl) (by kernel_rfl) (Or.inl ⟨by rfl, fun w' hSw => ?_⟩) HBd.out ?_
      rotate_left
      · dsimp only at hSw
        have cc := str_run (HX12.out.bs.below hSw)
        go_simp
        all_goals with_reducible rfl
      simp only [Act.put, List.setIfInBounds_toArray, List.set_cons_zero, List.set_cons_succ]
      refine ord_take (v := ?_) (i := 28) (fuel := 15) (by simp; rfl) (by kernel_rfl) (by kernel_rfl) (by kernel_rfl) (Or.inl ⟨by rfl, fun w' hSw => ?_⟩) HBd.out ?_
      rotate_left
      · go_simp
        all_goals with_reducible rfl
      simp only [Act.put, List.setIfInBounds_toArray, List.set_cons_zero, List.set_cons_succ]
      refine ord_take (v := ?_) (i := 29) (fuel := 14) (by simp; rfl) (by kernel_rfl) (by kernel_rfl) (by kernel_rfl) (Or.inl ⟨by rfl, fun w' hSw => ?_⟩) HBd.out ?_
      rotate_left
      · go_simp
        all_goals with_reducible rfl
      simp only [Act.put, List.setIfInBounds_toArray, List.set_cons_zero, List.set_cons_succ]
      refine ord_take (v := ?_) (i := 30) (fuel := 13) (by simp; rfl) (by kernel_rfl) (by kernel_rfl) (by kernel_rfl) (Or.inl ⟨by rfl, fun w' hSw => ?_⟩) HBd.out ?_
      rotate_left
      · go_simp
        all_goals with_reducible rfl
      simp only [Act.put, List.setIfInBounds_toArray, List.set_cons_zero, List.set_cons_succ]
      refine ord_take (v := ?_) (i := 31) (fuel := 12) (by simp; rfl) (by kernel_rfl) (by kernel_rfl) (by kernel_rfl) (Or.inl ⟨by rfl, fun w' hSw => ?_⟩) HBd.out ?_
      rotate_left
      · go_simp
        all_goals with_reducible rfl
      simp only [Act.put, List.setIfInBounds_toArray, List.set_cons_zero, List.set_cons_succ]
      refine ord_take (v := ?_) (i := 32) (fuel := 11) (by simp; rfl) (by kernel_rfl) (by kernel_rfl) (by kernel_rfl) (Or.inl ⟨by rfl, fun w' hSw => ?_⟩) HBd.out ?_
      rotate_left
      · go_simp
        all_goals with_reducible rfl
      simp only [Act.put, List.setIfInBounds_toArray, List.set_cons_zero, List.set_cons_succ]
      refine ord_take (v := ?_) (i := 33) (fuel := 10) (by simp; rfl) (by kernel_rfl) (by kernel_rfl) (by kernel_rfl) (Or.inl ⟨by rfl, fun w' hSw => ?_⟩) HBd.out ?_
      rotate_left
      · go_simp
        all_goals with_reducible rfl
      simp only [Act.put, List.setIfInBounds_toArray, List.set_cons_zero, List.set_cons_succ]
      refine ord_take (v := ?_) (i := 34) (fuel := 9) (by simp; rfl) (by kernel_rfl) (by kernel_rfl) (by kernel_rfl) (Or.inl ⟨by rfl, fun w' hSw => ?_⟩) HBd.out ?_
      rotate_left
      · go_simp
        all_goals with_reducible rfl
      simp only [Act.put, List.setIfInBounds_toArray, List.set_cons_zero, List.set_cons_succ]
      refine ord_take (v := ?_) (i := 35) (fuel := 8) (by simp; rfl) (by kernel_rfl) (by kernel_rfl) (by kernel_rfl) (Or.inl ⟨by rfl, fun w' hSw => ?_⟩) HBd.out ?_
      rotate_left
      · go_simp
        all_goals with_reducible rfl
      simp only [Act.put, List.setIfInBounds_toArray, List.set_cons_zero, List.set_cons_succ]
      refine ord_take (v := ?_) (i := 36) (fuel := 7) (by simp; rfl) (by kernel_rfl) (by kernel_rfl) (by kernel_rfl) (Or.inl ⟨by rfl, fun w' hSw => ?_⟩) HBd.out ?_
      rotate_left
      · go_simp
        all_goals with_reducible rfl
      simp only [Act.put, List.setIfInBounds_toArray, List.set_cons_zero, List.set_cons_succ]
      refine ord_take (v := ?_) (i := 37) (fuel := 6) (by simp; rfl) (by kernel_rfl) (by kernel_rfl) (by kernel_rfl) (Or.inl ⟨by rfl, fun w' hSw => ?_⟩) HBd.out ?_
      rotate_left
      · go_simp
        all_goals with_reducible rfl
      simp only [Act.put, List.setIfInBounds_toArray, List.set_cons_zero, List.set_cons_succ]
      refine ord_take (v := ?_) (i := 38) (fuel := 5) (by simp; rfl) (by kernel_rfl) (by kernel_rfl) (by kernel_rfl) (Or.inl ⟨by rfl, fun w' hSw => ?_⟩) HBd.out ?_
      rotate_left
      · dsimp only at hSw
        have cc := str_run (HS2.out.below hSw)
        go_simp
        all_goals with_reducible rfl
      simp only [Act.put, List.setIfInBounds_toArray, List.set_cons_zero, List.set_cons_succ]
      refine ord_take (v := ?_) (i := 39) (fuel := 4) (by simp; rfl) (by kernel_rfl) (by kernel_rfl) (by kernel_rfl) (Or.inl ⟨by rfl, fun w' hSw => ?_⟩) HBd.out ?_
      rotate_left
      · go_simp
        all_goals with_reducible rfl
      simp only [Act.put, List.setIfInBounds_toArray, List.set_cons_zero, List.set_cons_succ]
      refine ord_take (v := ?_) (i := 40) (fuel := 3) (by simp; rfl) (by kernel_rfl) (by kernel_rfl) (by kernel_rfl) (Or.inl ⟨by rfl, fun w' hSw => ?_⟩) HBd.out ?_
      rotate_left
      · dsimp only at hSw
        have cc := str_run (HY12.out.bs.below hSw)
        go_simp
        all_goals with_reducible rfl
      simp only [Act.put, List.setIfInBounds_toArray, List.set_cons_zero, List.set_cons_succ]
      refine ord_take (v := ?_) (i := 41) (fuel := 2) (by simp; rfl) (by kernel_rfl) (by kernel_rfl) (by kernel_rfl) (Or.inl ⟨by rfl, fun w' hSw => ?_⟩) HBd.out ?_
      rotate_left
      · go_simp
        all_goals with_reducible rfl
      simp only [Act.put, List.setIfInBounds_toArray, List.set_cons_zero, List.set_cons_succ]
      refine ord_take (v := ?_) (i := 42) (fuel := 1) (by simp; rfl) (by kernel_rfl) (by kernel_rfl) (by kernel_rfl) (Or.inl ⟨by rfl, fun w' hSw => ?_⟩) HBd.out ?_
      rotate_left
      · go_simp
        all_goals with_reducible rfl
      simp only [Act.put, List.setIfInBounds_toArray, List.set_cons_zero, List.set_cons_succ]
      refine ord_take (v := ?_) (i := 43) (fuel := 0) (by simp; rfl) (by kernel_rfl) (by kernel_rfl) (by kernel_rfl) (Or.inl ⟨by rfl, fun w' hSw => ?_⟩) HBd.out ?_
      rotate_left
      · go_simp
        all_goals with_reducible rfl
      simp only [Act.put, List.setIfInBounds_toArray, List.set_cons_zero, List.set_cons_succ]
      refine ord_done (by kernel_rfl) ?_ _
      go_wp2
      go_ret
      exact ⟨rfl, bel_tr HB12.out HBd.out⟩
    · replace HS2 := Lib.hid (show Bs w12 w12.heap.size (some ⟨q3, t, none⟩) ky (N - t) Y by have := HS2.out; rw [if_neg hc2] at this; simpa [Addr.add_lit] using this)
      as_aux_lemma =>
      go_upto_region 16 with fail
      refine wp_region_ord (S := fun V => Below w12.heap.size w12 V) (by kernel_rfl) ?_
      refine ord_take (v := ?_) (i := 0) (fuel := 43) (by simp; rfl) (by kernel_rfl) (by kernel_rfl) (by kernel_rfl) (Or.inl ⟨by rfl, fun w' hSw => ?_⟩) HBd.out ?_
      rotate_left
      · go_simp
        all_goals with_reducible rfl
      simp only [Act.put, List.setIfInBounds_toArray, List.set_cons_zero, List.set_cons_succ]
      refine ord_take (v := ?_) (i := 1) (fuel := 42) (by simp; rfl) (by kernel_rfl) (by kernel_rfl) (by kernel_rfl) (Or.inl ⟨by rfl, fun w' hSw => ?_⟩) HBd.out ?_
      rotate_left
      · go_simp
        all_goals with_reducible rfl
      simp only [Act.put, List.setIfInBounds_toArray, List.set_cons_zero, List.set_cons_succ]
      refine ord_take (v := ?_) (i := 2) (fuel := 41) (by simp; rfl) (by kernel_rfl) (by kernel_rfl) (by kernel_rfl) (Or.inl ⟨by rfl, fun w' hSw => ?_⟩) HBd.out ?_
      rotate_left
      · go_simp
        all_goals with_reducible rfl
      simp only [Act.put, List.setIfInBounds_toArray, List.set_cons_zero, List.set_cons_succ]
      refine ord_take (v := ?_) (i := 3) (fuel := 40) (by simp; rfl) (by kernel_rfl) (by kernel_rfl) (by kernel_rfl) (Or.inl ⟨by rfl, fun w' hSw => ?_⟩) HBd.out ?_
      rotate_left
      · go_simp
        all_goals with_reducible rfl
      simp only [Act.put, List.setIfInBounds_toArray, List.set_cons_zero, List.set_cons_succ]
      refine ord_take (v := ?_) (i := 4) (fuel := 39) (by simp; rfl) (by kernel_rfl) (by kernel_rfl) (by kernel_rfl) (Or.inl ⟨by rfl, fun w' hSw => ?_⟩) HBd.out ?_
      rotate_left
      · go_simp
        all_goals with_reducible rfl
      simp only [Act.put, List.setIfInBounds_toArray, List.set_cons_zero, List.set_cons_succ]
      refine ord_take (v := ?_) (i := 5) (fuel := 38) (by simp; rfl) (by kernel_rfl) (by kernel_rfl) (by kernel_rfl) (Or.inl ⟨by rfl, fun w' hSw => ?_⟩) HBd.out ?_
      rotate_left
      · go_simp
        all_goals with_reducible rfl
      simp only [Act.put, List.setIfInBounds_toArray, List.set_cons_zero, List.set_cons_succ]
      refine ord_take (v := ?_) (i := 6) (fuel := 37) (by simp; rfl) (by kernel_rfl) (by kernel_rfl) (by kernel_rfl) (Or.inl ⟨by rfl, fun w' hSw => ?_⟩) HBd.out ?_
      rotate_left
      · go_simp
        all_goals with_reducible rfl
      simp only [Act.put, List.setIfInBounds_toArray, List.set_cons_zero, List.set_cons_succ]
      refine ord_take (v := ?_) (i := 7) (fuel := 36) (by simp; rfl) (by kernel_rfl) (by kernel_rfl) (by kernel_rfl) (Or.inl ⟨by rfl, fun w' hSw => ?_⟩) HBd.out ?_
      rotate_left
      · go_simp
        all_goals with_reducible rfl
      simp only [Act.put, List.setIfInBounds_toArray, List.set_cons_zero, List.set_cons_succ]
      refine ord_take (v := ?_) (i := 8) (fuel := 35) (by simp; rfl) (by kernel_rfl) (by kernel_rfl) (by kernel_rfl) (Or.inl ⟨by rfl, fun w' hSw => ?_⟩) HBd.out ?_
      rotate_left
      · go_simp
        all_goals with_reducible rfl
      simp only [Act.put, List.setIfInBounds_toArray, List.set_cons_zero, List.set_cons_succ]
      refine ord_take (v := ?_) (i := 9) (fuel := 34) (by simp; rfl) (by kernel_rfl) (by kernel_rfl) (by kernel_rfl) (Or.inl ⟨by rfl, fun w' hSw => ?_⟩) HBd.out ?_
      rotate_left
      · dsimp only at hSw
        have cc := str_run ((HP12.out.below hSw).bs HPl.out)
        go_simp
        all_goals with_reducible rfl
      simp only [Act.put, List.setIfInBounds_toArray, List.set_cons_zero, List.set_cons_succ]
      refine ord_take (v := ?_) (i := 10) (fuel := 33) (by simp; rfl) (by kernel_rfl) (by kernel_rfl) (by kernel_rfl) (Or.inl ⟨by rfl, fun w' hSw => ?_⟩) HBd.out ?_
      rotate_left
      · go_simp
        all_goals with_reducible rfl
      simp only [Act.put, List.setIfInBounds_toArray, List.set_cons_zero, List.set_cons_succ]
      refine ord_take (v := ?_) (i := 11) (fuel := 32) (by simp; rfl) (by kernel_rfl) (by kernel_rfl) (by kernel_rfl) (Or.inl ⟨by rfl, fun w' hSw => ?_⟩) HBd.out ?_
      rotate_left
      · dsimp only at hSw
        have cc := str_run ((HQ12.out.below hSw).bs HQl.out)
        go_simp
        all_goals with_reducible rfl
      simp only [Act.put, List.setIfInBounds_toArray, List.set_cons_zero, List.set_cons_succ]
      refine ord_take (v := ?_) (i := 12) (fuel := 31) (by simp; rfl) (by kernel_rfl) (by kernel_rfl) (by kernel_rfl) (Or.inl ⟨by rfl, fun w' hSw => ?_⟩) HBd.out ?_
      rotate_left
      · go_simp
        all_goals with_reducible rfl
      simp only [Act.put, List.setIfInBounds_toArray, List.set_cons_zero, List.set_cons_succ]
      refine ord_take (v := ?_) (i := 13) (fuel := 30) (by simp; rfl) (by kernel_rfl) (by kernel_rfl) (by kernel_rfl) (Or.inl ⟨by rfl, fun w' hSw => ?_⟩) HBd.out ?_
      rotate_left
      · go_simp
        all_goals with_reducible rfl
      simp only [Act.put, List.setIfInBounds_toArray, List.set_cons_zero, List.set_cons_succ]
      refine ord_take (v := ?_) (i := 14) (fuel := 29) (by simp; rfl) (by kernel_rfl) (by kernel_rfl) (by kernel_rfl) (Or.inl ⟨by rfl, fun w' hSw => ?_⟩) HBd.out ?_
      rotate_left
      · dsimp only at hSw
        have cc := str_run ((HR12.out.below hSw).bs HEL.out)
        go_simp
        all_goals with_reducible rfl
      simp only [Act.put, List.setIfInBounds_toArray, List.set_cons_zero, List.set_cons_succ]
      refine ord_take (v := ?_) (i := 15) (fuel := 28) (by simp; rfl) (by kernel_rfl) (by kernel_rfl) (by kernel_rfl) (Or.inl ⟨by rfl, fun w' hSw => ?_⟩) HBd.out ?_
      rotate_left
      · go_simp
        all_goals with_reducible rfl
      simp only [Act.put, List.setIfInBounds_toArray, List.set_cons_zero, List.set_cons_succ]
      refine ord_take (v := ?_) (i := 16) (fuel := 27) (by simp; rfl) (by kernel_rfl) (by kernel_rfl) (by kernel_rfl) (Or.inl ⟨by rfl, fun w' hSw => ?_⟩) HBd.out ?_
      rotate_left
      · go_simp
        all_goals with_reducible rfl
      simp only [Act.put, List.setIfInBounds_toArray, List.set_cons_zero, List.set_cons_succ]
      refine ord_take (v := ?_) (i := 17) (fuel := 26) (by simp; rfl) (by kernel_rfl) (by kernel_rfl) (by kernel_rfl) (Or.inl ⟨by rfl, fun w' hSw => ?_⟩) HBd.out ?_
      rotate_left
      · go_simp
        all_goals with_reducible rfl
      simp only [Act.put, List.setIfInBounds_toArray, List.set_cons_zero, List.set_cons_succ]
      refine ord_take (v := ?_) (i := 18) (fuel := 25) (by simp; rfl) (by kernel_rfl) (by kernel_rfl) (by kernel_rfl) (Or.inl ⟨by rfl, fun w' hSw => ?_⟩) HBd.out ?_
      rotate_left
      · go_simp
        all_goals with_reducible rfl
      simp only [Act.put, List.setIfInBounds_toArray, List.set_cons_zero, List.set_cons_succ]
      refine ord_take (v := ?_) (i := 19) (fuel := 24) (by simp; rfl) (by kernel_rfl) (by kernel_rfl) (by kernel_rfl) (Or.inl ⟨by rfl, fun w' hSw => ?_⟩) HBd.out ?_
      rotate_left
      · go_simp
        all_goals with_reducible rfl
      simp only [Act.put, List.setIfInBounds_toArray, List.set_cons_zero, List.set_cons_succ]
      refine ord_take (v := ?_) (i := 20) (fuel := 23) (by simp; rfl) (by kernel_rfl) (by kernel_rfl) (by kernel_rfl) (Or.inl ⟨by rfl, fun w' hSw => ?_⟩) HBd.out ?_
      rotate_left
      · go_simp
        all_goals with_reducible rfl
      simp only [Act.put, List.setIfInBounds_toArray, List.set_cons_zero, List.set_cons_succ]
      refine ord_take (v := ?_) (i := 21) (fuel := 22) (by simp; rfl) (by kernel_rfl) (by kernel_rfl) (by kernel_rfl) (Or.inl ⟨by rfl, fun w' hSw => ?_⟩) HBd.out ?_
      rotate_left
      · go_simp
        all_goals with_reducible rfl
      simp only [Act.put, List.setIfInBounds_toArray, List.set_cons_zero, List.set_cons_succ]
      refine ord_take (v := ?_) (i := 22) (fuel := 21) (by simp; rfl) (by kernel_rfl) (by kernel_rfl) (by kernel_rfl) (Or.inl ⟨by rfl, fun w' hSw => ?_⟩) HBd.out ?_
      rotate_left
      · go_simp
        all_goals with_reducible rfl
      simp only [Act.put, List.setIfInBounds_toArray, List.set_cons_zero, List.set_cons_succ]
      refine ord_take (v := ?_) (i := 23) (fuel := 20) (by simp; rfl) (by kernel_rfl) (by kernel_rfl) (by kernel_rfl) (Or.inl ⟨by rfl, fun w' hSw => ?_⟩) HBd.out ?_
      rotate_left
      · go_simp
        all_goals with_reducible rfl
      simp only [Act.put, List.setIfInBounds_toArray, List.set_cons_zero, List.set_cons_succ]
      refine ord_take (v := ?_) (i := 24) (fuel := 19) (by simp; rfl) (by kernel_rfl) (by kernel_rfl) (by kernel_rfl) (Or.inl ⟨by rfl, fun w' hSw => ?_⟩) HBd.out ?_
      rotate_left
      · go_simp
        all_goals with_reducible rfl
      simp only [Act.put, List.setIfInBounds_toArray, List.set_cons_zero, List.set_cons_succ]
      refine ord_take (v := ?_) (i := 25) (fuel := 18) (by simp; rfl) (by kernel_rfl) (by kernel_rfl) (by kernel_rfl) (Or.inl ⟨by rfl, fun w' hSw => ?_⟩) HBd.out ?_
      rotate_left
      · dsimp only at hSw
        have cc := str_run (HS1.out.below hSw)
        go_simp
        all_goals with_reducible rfl
      simp only [Act.put, List.setIfInBounds_toArray, List.set_cons_zero, List.set_cons_succ]
      refine ord_take (v := ?_) (i := 26) (fuel := 17) (by simp; rfl) (by kernel_rfl) (by kernel_rfl) (by kernel_rfl) (Or.inl ⟨by rfl, fun w' hSw => ?_⟩) HBd.out ?_
      rotate_left
      · go_simp
        all_goals with_reducible rfl
      simp only [Act.put, List.setIfInBounds_toArray, List.set_cons_zero, List.set_cons_succ]
      refine ord_take (v := ?_) (i := 27) (fuel := 16) (by simp; rfl) (by kernel_rfl) (by kernel_rfl) (by kernel_rfl) (Or.inl ⟨by rfl, fun w' hSw => ?_⟩) HBd.out ?_
      rotate_left
      · dsimp only at hSw
        have cc := str_run (HX12.out.bs.below hSw)
        go_simp
        all_goals with_reducible rfl
      simp only [Act.put, List.setIfInBounds_toArray, List.set_cons_zero, List.set_cons_succ]
      refine ord_take (v := ?_) (i := 28) (fuel := 15) (by simp; rfl) (by kernel_rfl) (by kernel_rfl) (by kernel_rfl) (Or.inl ⟨by rfl, fun w' hSw => ?_⟩) HBd.out ?_
      rotate_left
      · go_simp
        all_goals with_reducible rfl
      simp only [Act.put, List.setIfInBounds_toArray, List.set_cons_zero, List.set_cons_succ]
      refine ord_take (v := ?_) (i := 29) (fuel := 14) (by simp; rfl) (by kernel_rfl) (by kernel_rfl) (by kernel_rfl) (Or.inl ⟨by rfl, fun w' hSw => ?_⟩) HBd.out ?_
      rotate_left
      · go_simp
        all_goals with_reducible rfl
      simp only [Act.put, List.setIfInBounds_toArray, List.set_cons_zero, List.set_cons_succ]
      refine ord_take (v := ?_) (i := 30) (fuel := 13) (by simp; rfl) (by kernel_rfl) (by kernel_rfl) (by kernel_rfl) (Or.inl ⟨by rfl, fun w' hSw => ?_⟩) HBd.out ?_
      rotate_left
      · go_simp
        all_goals with_reducible rfl
      simp only [Act.put, List.setIfInBounds_toArray, List.set_cons_zero, List.set_cons_succ]
      refine ord_take (v := ?_) (i := 31) (fuel := 12) (by simp; rfl) (by kernel_rfl) (by kernel_rfl) (by kernel_rfl) (Or.inl ⟨by rfl, fun w' hSw => ?_⟩) HBd.out ?_
      rotate_left
      · go_simp
        all_goals with_reducible rfl
      simp only [Act.put, List.setIfInBounds_toArray, List.set_cons_zero, List.set_cons_succ]
      refine ord_take (v := ?_) (i := 32) (fuel := 11) (by simp; rfl) (by kernel_rfl) (by kernel_rfl) (by kernel_rfl) (Or.inl ⟨by rfl, fun w' hSw => ?_⟩) HBd.out ?_
      rotate_left
      · go_simp
        all_goals with_reducible rfl
      simp only [Act.put, List.setIfInBounds_toArray, List.set_cons_zero, List.set_cons_succ]
      refine ord_take (v := ?_) (i := 33) (fuel := 10) (by simp; rfl) (by kernel_rfl) (by kernel_rfl) (by kernel_rfl) (Or.inl ⟨by rfl, fun w' hSw => ?_⟩) HBd.out ?_
      rotate_left
      · go_simp
        all_goals with_reducible rfl
      simp only [Act.put, List.setIfInBounds_toArray, List.set_cons_zero, List.set_cons_succ]
      refine ord_take (v := ?_) (i := 34) (fuel := 9) (by simp; rfl) (by kernel_rfl) (by kernel_rfl) (by kernel_rfl) (Or.inl ⟨by rfl, fun w' hSw => ?_⟩) HBd.out ?_
      rotate_left
      · go_simp
        all_goals with_reducible rfl
      simp only [Act.put, List.setIfInBounds_toArray, List.set_cons_zero, List.set_cons_succ]
      refine ord_take (v := ?_) (i := 35) (fuel := 8) (by simp; rfl) (by kernel_rfl) (by kernel_rfl) (by kernel_rfl) (Or.inl ⟨by rfl, fun w' hSw => ?_⟩) HBd.out ?_
      rotate_left
      · go_simp
        all_goals with_reducible rfl
      simp only [Act.put, List.setIfInBounds_toArray, List.set_cons_zero, List.set_cons_succ]
      refine ord_take (v := ?_) (i := 36) (fuel := 7) (by simp; rfl) (by kernel_rfl) (by kernel_rfl) (by kernel_rfl) (Or.inl ⟨by rfl, fun w' hSw => ?_⟩) HBd.out ?_
      rotate_left
      · go_simp
        all_goals with_reducible rfl
      simp only [Act.put, List.setIfInBounds_toArray, List.set_cons_zero, List.set_cons_succ]
      refine ord_take (v := ?_) (i := 37) (fuel := 6) (by simp; rfl) (by kernel_rfl) (by kernel_rfl) (by kernel_rfl) (Or.inl ⟨by rfl, fun w' hSw => ?_⟩) HBd.out ?_
      rotate_left
      · go_simp
        all_goals with_reducible rfl
      simp only [Act.put, List.setIfInBounds_toArray, List.set_cons_zero, List.set_cons_succ]
      refine ord_take (v := ?_) (i := 38) (fuel := 5) (by simp; rfl) (by kernel_rfl) (by kernel_rfl) (by kernel_rfl) (Or.inl ⟨by rfl, fun w' hSw => ?_⟩) HBd.out ?_
      rotate_left
      · dsimp only at hSw
        have cc := str_run (HS2.out.below hSw)
        go_simp
        all_goals with_reducible rfl
      simp only [Act.put, List.setIfInBounds_toArray, List.set_cons_zero, List.set_cons_succ]
      refine ord_take (v := ?_) (i := 39) (fuel := 4) (by simp; rfl) (by kernel_rfl) (by kernel_rfl) (by kernel_rfl) (Or.inl ⟨by rfl, fun w' hSw => ?_⟩) HBd.out ?_
      rotate_left
      · go_simp
        all_goals with_reducible rfl
      simp only [Act.put, List.setIfInBounds_toArray, List.set_cons_zero, List.set_cons_succ]
      refine ord_take (v := ?_) (i := 40) (fuel := 3) (by simp; rfl) (by kernel_rfl) (by kernel_rfl) (by kernel_rfl) (Or.inl ⟨by rfl, fun w' hSw => ?_⟩) HBd.out ?_
      rotate_left
      · dsimp only at hSw
        have cc := str_run (HY12.out.bs.below hSw)
        go_simp
        all_goals with_reducible rfl
      simp only [Act.put, List.setIfInBounds_toArray, List.set_cons_zero, List.set_cons_succ]
      refine ord_take (v := ?_) (i := 41) (fuel := 2) (by simp; rfl) (by kernel_rfl) (by kernel_rfl) (by kernel_rfl) (Or.inl ⟨by rfl, fun w' hSw => ?_⟩) HBd.out ?_
      rotate_left
      · go_simp
        all_goals with_reducible rfl
      simp only [Act.put, List.setIfInBounds_toArray, List.set_cons_zero, List.set_cons_succ]
      refine ord_take (v := ?_) (i := 42) (fuel := 1) (by simp; rfl) (by kernel_rfl) (by kernel_rfl) (by kernel_rfl) (Or.inl ⟨by rfl, fun w' hSw => ?_⟩) HBd.out ?_
      rotate_left
      · go_simp
        all_goals with_reducible rfl
      simp only [Act.put, List.setIfInBounds_toArray, List.set_cons_zero, List.set_cons_succ]
      refine ord_take (v := ?_) (i := 43) (fuel := 0) (by simp; rfl) (by kernel_rfl) (by kernel_rfl) (by kernel_rfl) (Or.inl ⟨by rfl, fun w' hSw => ?_⟩) HBd.out ?_
      rotate_left
      · go_simp
        all_goals with_reducible rfl
      simp only [Act.put, List.setIfInBounds_toArray, List.set_cons_zero, List.set_cons_succ]
      refine ord_done (by kernel_rfl) ?_ _
      go_wp2
      go_ret
      exact ⟨rfl, bel_tr HB12.out HBd.out⟩
end Go.Proofs.Ytlaknhbgckppkaa

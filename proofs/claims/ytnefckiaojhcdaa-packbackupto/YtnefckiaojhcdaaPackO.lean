/- PackBack's walk. -/
import Derived.Test.YtnefckiaojhcdaaPackN
import Derived.Test.YtnefckiaojhcdaaOrd
import Derived.Deep.DeepCutAuto
import Derived.Deep.CutBlock
namespace Go.Proofs.Ytnefckiaojhcdaa
open Go.RowKit
theorem grown_of {w w' : World} {B g : Nat} (h : w.grownBy w' (some g)) (hg : B ≤ g) (hB : B ≤ w.heap.size) : Below B w w' :=
  (Below.refl _ _).grown h hB (fun k hk => by cases hk; exact hg)
def BackA (w : World) (F : List UInt8) (xs : List Int) (ts : List (List UInt8)) (N : Nat) (v i : Value) (wr : World) : Prop :=
  ∃ k g n c : Nat, k ≤ N ∧ i = .int .i64 (k : Int) ∧ v = .slice (some ⟨g, 0, none⟩) n c ∧ Own wr w.heap.size g n c (F ++ accL xs ts k) ∧ Below w.heap.size w wr
def BackB (w : World) (E : List UInt8) (xs : List Int) (ts : List (List UInt8)) (N : Nat) (v i : Value) (wr : World) : Prop :=
  ∃ (k : Nat) (A : Option Addr) (n c : Nat), k ≤ N ∧ i = .int .i64 (k : Int) ∧ v = .slice A n c ∧ Bs wr wr.heap.size A n c (tlL xs ts k (N - k) ++ E) ∧ Below w.heap.size w wr
set_option maxRecDepth 100000 in
set_option maxHeartbeats 12800000 in
theorem back_walk (A0 : Option Addr) (n0 c0 : Nat) (xs : List Int) (A1 : Option Addr) (n1 c1 : Nat) (ts : List (List UInt8)) (A2 : Option Addr) (n2 c2 : Nat) (F0 : List UInt8) (A3 : Option Addr) (n3 c3 : Nat) (E0 : List UInt8) (w : World)
    (h0 : Vs w w.heap.size A0 n0 c0 (xs.map (Value.int .i64))) (h1 : Vs w w.heap.size A1 n1 c1 (ts.map strV)) (h2 : Bs w w.heap.size A2 n2 c2 F0) (h3 : Bs w w.heap.size A3 n3 c3 E0)
    (hx : ∀ k, -9223372036854775808 ≤ xs.getD k 0 ∧ xs.getD k 0 ≤ 9223372036854775807) (b0 : n0 ≤ 1048576) (bT : ∀ k, sumT ts k ≤ 1048576) (bt : ∀ k, (ts.getD k []).length ≤ 1048576) (b2 : n2 ≤ 1048576) (b3 : n3 ≤ 1048576) :
    Calls Try.prog 7 #[.slice A0 n0 c0, .slice A1 n1 c1, .slice A2 n2 c2, .slice A3 n3 c3] w fun e w' => e = .returned (.bool true) ∧ Below w.heap.size w w' := by
  obtain ⟨i0, hi, hz0, hz1, hz2⟩ := info_parts Try.i8
  obtain ⟨kf, hkf⟩ : ∃ k, min n2 20 = k := ⟨_, rfl⟩
  obtain ⟨ke, hke⟩ : ∃ k, min n3 20 = k := ⟨_, rfl⟩
  have hkf2 : kf ≤ 20 := by omega
  have hke2 : ke ≤ 20 := by omega
  have HF := Lib.hid (show (F0.take 20).length = kf by rw [List.length_take, h2.len]; omega)
  have HEL := Lib.hid (show (E0.take 20).length = ke by rw [List.length_take, h3.len]; omega)
  have HKF := Lib.hid hkf
  have HKE := Lib.hid hke
  have H0 := Lib.hid h0
  have H1 := Lib.hid h1
  have H2 := Lib.hid h2
  have H3 := Lib.hid h3
  have HX := Lib.hid hx
  have HT := Lib.hid bT
  have Ht := Lib.hid bt
  have HN1 := Lib.hid (show ts.length = n1 by have := h1.1; rwa [List.length_map] at this)
  clear h0 h1 h2 h3 hkf hke hx bT bt
  go_enter Try.func7, Try.ntmps7
  go_wp2_with fail
  (with_reducible refine (few_c A2 n2 c2 F0 20 20 kf _ H2.out rfl HKF.out (by omega)).mono ?_)
  rintro e w1 ⟨g1, cc1, rfl, ho, hb⟩
  have HO := Lib.hid ho
  have HB := Lib.hid hb
  clear ho hb
  go_upto_block 0 with fail
  go_cut [9] (fun v' wx => ∃ g n c : Nat, v' = .slice (some ⟨g, 0, none⟩) n c ∧ n ≤ 30000000 ∧ Own wx w.heap.size g n c (F0.take 20 ++ accL xs ts n0) ∧ Below w.heap.size w wx)
  case first =>
    go_wp2
    go_loopw [9, 28] (fun v i wr => BackA w (F0.take 20) xs ts n0 v i wr) (fun _ i _ => n0 - (intOf i).toNat)
    case atStart => exact ⟨0, g1, kf, cc1, by omega, rfl, rfl, by simpa [accL] using HO.out, HB.out⟩
    case round =>
      obtain ⟨k, g, n, c, hk, rfl, rfl, ho, hb⟩ := hrel
      have HO1 := Lib.hid ho
      have HB1 := Lib.hid hb
      have hnb : n ≤ 30000000 := by
        have e1 := ho.len
        have e2 := accL_len xs ts k
        have e3 := HT.out k
        have e4 := HF.out
        rw [List.length_append] at e1
        omega
      clear ho hb HO HB
      by_cases hlt : k < n0
      · obtain ⟨ga, oa, rfl, hcell⟩ := H0.out.int HB1.out hlt
        obtain ⟨x, hxx⟩ : ∃ x, xs.getD k 0 = x := ⟨_, rfl⟩
        rw [hxx] at hcell
        have HX1 := Lib.hid (HX.out k)
        rw [hxx] at HX1
        obtain ⟨q, hq⟩ : ∃ q, (enc (zig x)).length = q := ⟨_, rfl⟩
        have hq10 : q ≤ 10 := by rw [← hq]; exact (enc_len _).2
        have HQ := Lib.hid hq
        have HXX := Lib.hid hxx
        clear hq hxx
        go_wp2_with fail
        (with_reducible refine (int_c (some ⟨g, 0, none⟩) n c (F0.take 20 ++ accL xs ts k) x _ HX1.out.1 HX1.out.2 HO1.out.bs (by omega)).mono ?_)
        rintro e w2 ⟨rfl, ho, hb⟩
        rw [HQ.out] at ho
        rw [HQ.out]
        have HO2 := Lib.hid (ho.base HB1.out.size)
        have HB2 := Lib.hid (bel_tr HB1.out hb)
        clear ho hb hcell
        by_cases hlt1 : k < n1
        · obtain ⟨gb, ob, rfl, hcell⟩ := H1.out.str HB2.out hlt1
          obtain ⟨t, htt⟩ : ∃ t, ts.getD k [] = t := ⟨_, rfl⟩
          have htb := Ht.out k
          rw [htt] at hcell htb
          have HTT := Lib.hid htt
          have HTB := Lib.hid htb
          clear htt htb
          go_wp2_with fail
          (with_reducible refine (text_c _ _ _ _ t _ HO2.out.bs (by have := HTB.out; omega)).mono ?_)
          rintro e w3 ⟨g3, n3', c3', rfl, ho, hb⟩
          have HO3 := Lib.hid (ho.base HB2.out.size)
          have HB3 := Lib.hid (bel_tr HB2.out hb)
          have HA := Lib.hid (show F0.take 20 ++ accL xs ts k ++ enc (zig x) ++ enc (zig (t.length : Int)) ++ t = F0.take 20 ++ accL xs ts (k + 1) by
            have hh := HN1.out
            rw [accL, pcL, txL, if_pos (by omega), HXX.out, HTT.out]
            simp only [List.append_assoc])
          clear ho hb hcell
          go_wp2
          go_roundw
          case rel => exact ⟨k + 1, g3, n3', c3', by omega, by go_num, rfl, HA.out ▸ HO3.out, HB3.out⟩
          case measure => simp [intOf]; omega
        · have HA := Lib.hid (show F0.take 20 ++ accL xs ts k ++ enc (zig x) = F0.take 20 ++ accL xs ts (k + 1) by
            have hh := HN1.out
            rw [accL, pcL, txL, if_neg (by omega), HXX.out]
            simp only [List.append_assoc, List.append_nil])
          go_wp2
          go_roundw
          case rel => exact ⟨k + 1, _, _, _, by omega, by go_num, rfl, HA.out ▸ HO2.out, HB2.out⟩
          case measure => simp [intOf]; omega
      · obtain rfl : n0 = k := by omega
        go_wp2_with fail
        go_meet
        case rel => exact ⟨g, n, c, rfl, hnb, HO1.out, HB1.out⟩
  case rest =>
    as_aux_lemma =>
    obtain ⟨g, n, c, rfl, hnb, ho, hb⟩ := hcut
    have HO1 := Lib.hid ho
    have HB1 := Lib.hid hb
    clear ho hb HO HB
    go_wp2_with fail
    (with_reducible refine (few_c A3 n3 c3 E0 20 20 ke _ ((H3.out.below HB1.out).more HB1.out.size) rfl HKE.out (by omega)).mono ?_)
    rintro e w4 ⟨g4, c4, rfl, ho, hb⟩
    have HE4 := Lib.hid ho
    have HO4 := Lib.hid (HO1.out.below hb HO1.out.lt)
    have HB4 := Lib.hid (bel_tr HB1.out hb)
    clear ho hb
    go_wp2_with (at_builtin; refine wpList_append_own _ rfl (.tmp 47) (.tmp 49) _ rfl w.heap.size 5 i0 (.int .u8 0) 1 1 Try.u42 hi hz0 hz1 hz2 rfl (by decide) (.slice (some ⟨g, 0, none⟩) n c) n (Lib.byteCells (F0.take 20 ++ accL xs ts n0)) rfl HO4.out.2 ⟨g4, 0, none⟩ ke c4 (Lib.byteCells (E0.take 20)) rfl (by rw [Lib.byteCells_length, HEL.out, Nat.mul_one]) (HE4.out.bs.news _ rfl) (byteCells_ones _) (by unfold maxLen; omega) (by omega) HB4.out.size ?_; intro v5 w5 hown5 hgrow5 hnil5)
    rw [← Lib.byteCells_append] at hown5
    obtain ⟨g5, c5, rfl, ho5⟩ := own_ne hown5 (fun e => by have := (hnil5.1 e).1; simp at this)
    obtain ⟨n5, hn5⟩ : ∃ m, n + ke = m := ⟨_, rfl⟩
    rw [hn5] at ho5
    rw [hn5]
    have HB5 := Lib.hid (HB4.out.trans (grown_of hgrow5 HO4.out.ge HB4.out.size))
    have hn5b : n5 ≤ 40000000 := by omega
    have hk5 : kf ≤ n5 := by have := ho5.len; rw [List.length_append, List.length_append, HF.out] at this; omega
    have hc5 : n5 ≤ c5 := ho5.room
    obtain ⟨L5, hL5⟩ : ∃ L, F0.take 20 ++ accL xs ts n0 ++ E0.take 20 = L := ⟨_, rfl⟩
    rw [hL5] at ho5
    have HTK := Lib.hid (show L5.take kf = F0.take 20 by rw [← hL5, List.append_assoc, ← HF.out, List.take_left])
    have HDK := Lib.hid (show L5.drop kf = tlL xs ts 0 (n0 - 0) ++ E0.take 20 by rw [← hL5, List.append_assoc, ← HF.out, List.drop_left, accL_all]; rfl)
    have HO5 := Lib.hid ho5
    clear hown5 hgrow5 hnil5 ho5 hL5 hn5 HO1 HB1 HE4 HO4 HB4
    go_upto_region 11 with fail
    go_cut [68] (fun s' wx => s' = .bool false ∧ Below w.heap.size w wx ∧ Own wx w.heap.size g5 n5 c5 L5)
    case first =>
      as_aux_lemma =>
      have i1 : ¬ (n5 : Int) < (kf : Int) := by omega
      have i2 : (0 : Int) ≤ (kf : Int) := by omega
      have i3 : (kf : Int) ≤ (c5 : Int) := by omega
      have i4 : decide (n5 < kf) = false := by simp; omega
      have HS0 : (convert 42 9 (.slice (some ⟨g5, 0, none⟩) kf c5)).run Try.prog w5.drew = .ok (.string ⟨(F0.take 20).toArray⟩) w5.drew := by
        have := str_run ((HO5.out.bs.head (k := kf) (by omega)).below (Below.refl _ _).drew)
        rwa [HTK.out] at this
      refine wp_region_ord (S := fun W => (convert 42 9 (.slice (some ⟨g5, 0, none⟩) kf c5)).run Try.prog W = .ok (.string ⟨(F0.take 20).toArray⟩) W) (by kernel_rfl) ?_
      refine ord_call (f := 29) (args := #[]) (w1 := w5.drew) (i := 0) (fuel := 17) (by simp; rfl) (by kernel_rfl) (by rfl) ?_ ?_
      · go_simp
        all_goals with_reducible rfl
      refine (known4_c _).mono ?_
      rintro e w6 ⟨rfl, hb6⟩
      have hbb : Below w5.heap.size w5 w6 := (Below.refl _ _).drew.trans hb6
      have HB6 := Lib.hid (bel_tr HB5.out hbb)
      have HO6 := Lib.hid (HO5.out.below hbb HO5.out.lt)
      have HF6 := Lib.hid ((H2.out.below HB6.out).more HB6.out.size)
      have q1 := str_run (HO6.out.bs.head (k := kf) (by omega))
      rw [HTK.out] at q1
      have HS6 := Lib.hid q1
      clear hb6 hbb q1
      refine ⟨_, rfl, HS6.out, ?_⟩
      simp only [Act.put, List.setIfInBounds_toArray, List.set_cons_zero, List.set_cons_succ]
      refine ord_take (v := ?_) (i := 1) (fuel := 16) (by simp; rfl) (by kernel_rfl) (by kernel_rfl) (by kernel_rfl) (Or.inl ⟨by rfl, fun w' hSw => ?_⟩) HS6.out ?_
      rotate_left
      · go_simp
        all_goals with_reducible rfl
      simp only [Act.put, List.setIfInBounds_toArray, List.set_cons_zero, List.set_cons_succ]
      refine ord_take (v := ?_) (i := 2) (fuel := 15) (by simp; rfl) (by kernel_rfl) (by kernel_rfl) (by kernel_rfl) (Or.inl ⟨by rfl, fun w' hSw => ?_⟩) HS6.out ?_
      rotate_left
      · go_simp
        all_goals with_reducible rfl
      simp only [Act.put, List.setIfInBounds_toArray, List.set_cons_zero, List.set_cons_succ]
      refine ord_take (v := ?_) (i := 3) (fuel := 14) (by simp; rfl) (by kernel_rfl) (by kernel_rfl) (by kernel_rfl) (Or.inl ⟨by rfl, fun w' hSw => ?_⟩) HS6.out ?_
      rotate_left
      · go_simp
        all_goals with_reducible rfl
      simp only [Act.put, List.setIfInBounds_toArray, List.set_cons_zero, List.set_cons_succ]
      refine ord_take (v := ?_) (i := 4) (fuel := 13) (by simp; rfl) (by kernel_rfl) (by kernel_rfl) (by kernel_rfl) (Or.inl ⟨by rfl, fun w' hSw => ?_⟩) HS6.out ?_
      rotate_left
      · go_simp
        all_goals with_reducible rfl
      simp only [Act.put, List.setIfInBounds_toArray, List.set_cons_zero, List.set_cons_succ]
      refine ord_take (v := ?_) (i := 5) (fuel := 12) (by simp; rfl) (by kernel_rfl) (by kernel_rfl) (by kernel_rfl) (Or.inl ⟨by rfl, fun w' hSw => ?_⟩) HS6.out ?_
      rotate_left
      · go_simp
        all_goals with_reducible rfl
      simp only [Act.put, List.setIfInBounds_toArray, List.set_cons_zero, List.set_cons_succ]
      refine ord_take (v := ?_) (i := 6) (fuel := 11) (by simp; rfl) (by kernel_rfl) (by kernel_rfl) (by kernel_rfl) (Or.inl ⟨by rfl, fun w' hSw => ?_⟩) HS6.out ?_
      rotate_left
      · go_simp
        all_goals with_reducible rfl
      simp only [Act.put, List.setIfInBounds_toArray, List.set_cons_zero, List.set_cons_succ]
      refine ord_take (v := ?_) (i := 7) (fuel := 10) (by simp; rfl) (by kernel_rfl) (by kernel_rfl) (by kernel_rfl) (Or.inl ⟨by rfl, fun w' hSw => ?_⟩) HS6.out ?_
      rotate_left
      · go_simp
        all_goals with_reducible rfl
      simp only [Act.put, List.setIfInBounds_toArray, List.set_cons_zero, List.set_cons_succ]
      refine ord_take (v := ?_) (i := 8) (fuel := 9) (by simp; rfl) (by kernel_rfl) (by kernel_rfl) (by kernel_rfl) (Or.inl ⟨by rfl, fun w' hSw => ?_⟩) HS6.out ?_
      rotate_left
      · go_simp
        all_goals with_reducible rfl
      simp only [Act.put, List.setIfInBounds_toArray, List.set_cons_zero, List.set_cons_succ]
      refine ord_take (v := ?_) (i := 9) (fuel := 8) (by simp; rfl) (by kernel_rfl) (by kernel_rfl) (by kernel_rfl) (Or.inl ⟨by rfl, fun w' hSw => ?_⟩) HS6.out ?_
      rotate_left
      · go_simp
        all_goals with_reducible rfl
      simp only [Act.put, List.setIfInBounds_toArray, List.set_cons_zero, List.set_cons_succ]
      refine ord_take (v := ?_) (i := 10) (fuel := 7) (by simp; rfl) (by kernel_rfl) (by kernel_rfl) (by kernel_rfl) (Or.inl ⟨by rfl, fun w' hSw => ?_⟩) HS6.out ?_
      rotate_left
      · go_simp
        all_goals with_reducible rfl
      simp only [Act.put, List.setIfInBounds_toArray, List.set_cons_zero, List.set_cons_succ]
      refine ord_take (v := ?_) (i := 11) (fuel := 6) (by simp; rfl) (by kernel_rfl) (by kernel_rfl) (by kernel_rfl) (Or.inl ⟨by rfl, fun w' hSw => ?_⟩) HS6.out ?_
      rotate_left
      · go_simp
        all_goals with_reducible rfl
      simp only [Act.put, List.setIfInBounds_toArray, List.set_cons_zero, List.set_cons_succ]
      refine ord_take (v := ?_) (i := 12) (fuel := 5) (by simp; rfl) (by kernel_rfl) (by kernel_rfl) (by kernel_rfl) (Or.inl ⟨by rfl, fun w' hSw => ?_⟩) HS6.out ?_
      rotate_left
      · have hq := hSw
        dsimp only at hq
        go_simp
        all_goals with_reducible rfl
      simp only [Act.put, List.setIfInBounds_toArray, List.set_cons_zero, List.set_cons_succ]
      refine ord_take (v := ?_) (i := 13) (fuel := 4) (by simp; rfl) (by kernel_rfl) (by kernel_rfl) (by kernel_rfl) (Or.inl ⟨by rfl, fun w' hSw => ?_⟩) HS6.out ?_
      rotate_left
      · go_simp
        all_goals with_reducible rfl
      simp only [Act.put, List.setIfInBounds_toArray, List.set_cons_zero, List.set_cons_succ]
      refine ord_call (f := 32) (args := #[.slice A2 n2 c2, .int .i64 20]) (w1 := w6) (i := 14) (fuel := 3) (by simp; rfl) (by kernel_rfl) (by rfl) ?_ ?_
      · go_simp
        all_goals with_reducible rfl
      refine (few_c A2 n2 c2 F0 20 20 kf _ HF6.out rfl HKF.out (by omega)).mono ?_
      rintro e w7 ⟨g7, c7, rfl, ho7, hb7⟩
      have HB7 := Lib.hid (bel_tr HB6.out hb7)
      have HO7 := Lib.hid (HO6.out.below hb7 HO6.out.lt)
      have q2 := str_run ho7.bs
      have q3 := str_run (HO7.out.bs.head (k := kf) (by omega))
      rw [HTK.out] at q3
      have HS7 := Lib.hid q3
      clear ho7 hb7 q3
      refine ⟨_, rfl, HS7.out, ?_⟩
      simp only [Act.put, List.setIfInBounds_toArray, List.set_cons_zero, List.set_cons_succ]
      refine ord_only (v := ?_) (w' := w7) (i := 15) (fuel := 2) (by simp; rfl) (by kernel_rfl) (by rfl) ?_ HS7.out ?_
      rotate_left
      · go_simp
        all_goals with_reducible rfl
      simp only [Act.put, List.setIfInBounds_toArray, List.set_cons_zero, List.set_cons_succ]
      refine ord_take (v := ?_) (i := 16) (fuel := 1) (by simp; rfl) (by kernel_rfl) (by kernel_rfl) (by kernel_rfl) (Or.inl ⟨by rfl, fun w' hSw => ?_⟩) HS7.out ?_
      rotate_left
      · go_simp
        all_goals with_reducible rfl
      simp only [Act.put, List.setIfInBounds_toArray, List.set_cons_zero, List.set_cons_succ]
      refine ord_take (v := ?_) (i := 17) (fuel := 0) (by simp; rfl) (by kernel_rfl) (by kernel_rfl) (by kernel_rfl) (Or.inl ⟨by rfl, fun w' hSw => ?_⟩) HS7.out ?_
      rotate_left
      · go_simp
        all_goals with_reducible rfl
      simp only [Act.put, List.setIfInBounds_toArray, List.set_cons_zero, List.set_cons_succ]
      refine ord_done (by kernel_rfl) ?_ _
      go_wp2_with fail
      go_meet
      case rel => exact ⟨rfl, HB7.out, HO7.out⟩
    case rest =>
      as_aux_lemma =>
      obtain ⟨rfl, hb, ho⟩ := hcut
      have HBc := Lib.hid hb
      have HOc := Lib.hid ho
      clear hb ho HB5 HO5
      go_upto_region 13 with fail
      go_cut [13] (fun v' wx => ∃ (A : Option Addr) (n c : Nat), v' = .slice A n c ∧ Bs wx wx.heap.size A n c (tlL xs ts 0 (n0 - 0) ++ E0.take 20) ∧ Below w.heap.size w wx)
      case first =>
        as_aux_lemma =>
        by_cases hck : c5 = kf
        · obtain rfl : n5 = kf := by omega
          have HC := HOc.out.bs.cut_yes (k := n5) (Nat.le_refl _) hck
          rw [HDK.out, hck, Nat.sub_self] at HC
          have HCh := Lib.hid HC
          clear HC
          subst hck
          go_wp2_with fail
          go_meet
          case rel => exact ⟨_, _, _, rfl, HCh.out, HBc.out⟩
        · have HC := HOc.out.bs.cut_no (k := kf) hk5 hck
          rw [HDK.out] at HC
          have HCh := Lib.hid HC
          have i2 : (0 : Int) ≤ (kf : Int) := by omega
          have i3 : (kf : Int) ≤ (n5 : Int) := by omega
          clear HC
          go_wp2_with fail
          go_meet
          case rel => exact ⟨_, _, _, rfl, (by simpa [Addr.add_lit] using HCh.out), HBc.out⟩
      case rest =>
        as_aux_lemma =>
        obtain ⟨A, n, c, rfl, hbs, hb⟩ := hcut
        have HBS := Lib.hid hbs
        have HB1 := Lib.hid hb
        clear hbs hb HBc HOc
        go_wp2
        go_loopw [13, 74] (fun v i wr => BackB w (E0.take 20) xs ts n0 v i wr) (fun _ i _ => n0 - (intOf i).toNat)
        case atStart => exact ⟨0, A, n, c, by omega, rfl, rfl, HBS.out, HB1.out⟩
        case round =>
          clear HBS HB1
          obtain ⟨k, A, n, c, hk, rfl, rfl, hbs, hb⟩ := hrel
          have HB1 := Lib.hid hb
          have hnb : n ≤ 40000000 := by
            have e1 := hbs.len
            have e2 := tlL_len xs ts hk
            have e3 := HT.out n0
            have e4 := HEL.out
            rw [List.length_append] at e1
            omega
          by_cases hlt : k < n0
          · obtain ⟨ga, oa, rfl, hcell⟩ := H0.out.int hb hlt
            obtain ⟨x, hxx⟩ : ∃ x, xs.getD k 0 = x := ⟨_, rfl⟩
            rw [hxx] at hcell
            have HX1 := Lib.hid (HX.out k)
            rw [hxx] at HX1
            obtain ⟨q, hq⟩ : ∃ q, (enc (zig x)).length = q := ⟨_, rfl⟩
            obtain ⟨T, hT⟩ : ∃ T, tlL xs ts (k + 1) (n0 - (k + 1)) ++ E0.take 20 = T := ⟨_, rfl⟩
            rw [tlL_step xs ts hlt, pcL, hxx, List.append_assoc, List.append_assoc, hT] at hbs
            obtain ⟨r, hr⟩ : ∃ r, n - q = r := ⟨_, rfl⟩
            have HBS := Lib.hid hbs
            have HQ := Lib.hid hq
            have HR := Lib.hid hr
            have HTT := Lib.hid hT
            have hrn : r ≤ n := by omega
            clear hq hr hT hbs hb hxx
            go_wp2_with fail
            (with_reducible refine (readInt_enc A n c x (txL ts k ++ T) _ q r HQ.out HR.out HX1.out.1 HX1.out.2 HBS.out (by omega)).mono ?_)
            rintro e w2 ⟨rfl, ho, hb⟩
            have HO2 := Lib.hid ho
            have HB2 := Lib.hid (bel_tr HB1.out hb)
            clear ho hb hcell
            by_cases hlt1 : k < n1
            · obtain ⟨gb, ob, rfl, hcell⟩ := H1.out.str HB2.out hlt1
              obtain ⟨t, htt⟩ : ∃ t, ts.getD k [] = t := ⟨_, rfl⟩
              rw [htt] at hcell
              have HL := Lib.hid (show txL ts k ++ T = enc (zig (t.length : Int)) ++ t ++ T by
                have hh := HN1.out
                rw [txL, if_pos (by omega), htt])
              have HG := Lib.hid (show Bs w2 w2.heap.size (some ⟨wr.heap.size, 0, none⟩) r r (enc (zig (t.length : Int)) ++ t ++ T) from HL.out ▸ HO2.out.bs)
              obtain ⟨r2, hr2⟩ : ∃ r, T.length = r := ⟨_, rfl⟩
              have HR2 := Lib.hid hr2
              have Htt := Lib.hid htt
              clear htt hcell hr2
              go_wp2_with fail
              (with_reducible refine (readText_enc _ r r t T _ r2 HG.out HR2.out (by omega)).mono ?_)
              rintro e w3 ⟨rfl, ho, hb⟩
              have HO3 := Lib.hid ho
              have HB3 := Lib.hid (bel_tr HB2.out hb)
              clear ho hb
              obtain ⟨gb2, ob2, e2, hcell⟩ := H1.out.str HB3.out hlt1
              cases e2
              rw [Htt.out] at hcell
              go_wp2
              go_roundw
              case rel => exact ⟨k + 1, _, _, _, by omega, by go_num, rfl, HTT.out.symm ▸ HO3.out.bs, HB3.out⟩
              case measure => simp [intOf]; omega
            · have HL := Lib.hid (show txL ts k ++ T = T by
                have hh := HN1.out
                rw [txL, if_neg (by omega), List.nil_append])
              have HG := Lib.hid (show Bs w2 w2.heap.size (some ⟨wr.heap.size, 0, none⟩) r r T from HL.out ▸ HO2.out.bs)
              go_wp2
              go_roundw
              case rel => exact ⟨k + 1, _, _, _, by omega, by go_num, rfl, HTT.out.symm ▸ HG.out, HB2.out⟩
              case measure => simp [intOf]; omega
          · obtain rfl : n0 = k := by omega
            rw [Nat.sub_self, tlL, List.nil_append] at hbs
            have HBS := Lib.hid hbs
            have HS0 : (convert 42 9 (.slice A n c)).run Try.prog wr.drew = .ok (.string ⟨(E0.take 20).toArray⟩) wr.drew := str_run (hbs.below (Below.refl _ _).drew)
            have RF := Lib.hid (few_c A3 n3 c3 E0 20 20 ke wr.drew (((H3.out.below hb).more hb.size).below (Below.refl _ _).drew) rfl HKE.out (by omega))
            clear hbs hb
            go_upto_region 27 with fail
            refine wp_region_ord (S := fun W => (convert 42 9 (.slice A n c)).run Try.prog W = .ok (.string ⟨(E0.take 20).toArray⟩) W) (by kernel_rfl) ?_
            refine ord_take (v := ?_) (i := 0) (fuel := 6) (by simp; rfl) (by kernel_rfl) (by kernel_rfl) (by kernel_rfl) (Or.inl ⟨by rfl, fun w' hSw => ?_⟩) HS0 ?_
            rotate_left
            · go_simp
              all_goals with_reducible rfl
            simp only [Act.put, List.setIfInBounds_toArray, List.set_cons_zero, List.set_cons_succ]
            refine ord_take (v := ?_) (i := 1) (fuel := 5) (by simp; rfl) (by kernel_rfl) (by kernel_rfl) (by kernel_rfl) (Or.inl ⟨by rfl, fun w' hSw => ?_⟩) HS0 ?_
            rotate_left
            · have hq := hSw
              dsimp only at hq
              go_simp
              all_goals with_reducible rfl
            simp only [Act.put, List.setIfInBounds_toArray, List.set_cons_zero, List.set_cons_succ]
            refine ord_take (v := ?_) (i := 2) (fuel := 4) (by simp; rfl) (by kernel_rfl) (by kernel_rfl) (by kernel_rfl) (Or.inl ⟨by rfl, fun w' hSw => ?_⟩) HS0 ?_
            rotate_left
            · go_simp
              all_goals with_reducible rfl
            simp only [Act.put, List.setIfInBounds_toArray, List.set_cons_zero, List.set_cons_succ]
            refine ord_call (f := 32) (args := #[.slice A3 n3 c3, .int .i64 20]) (w1 := wr.drew) (i := 3) (fuel := 3) (by simp; rfl) (by kernel_rfl) (by rfl) ?_ ?_
            · go_simp
              all_goals with_reducible rfl
            refine RF.out.mono ?_
            rintro e w7 ⟨g7, c7, rfl, ho7, hb7⟩
            have hbb : Below wr.heap.size wr w7 := (Below.refl _ _).drew.trans hb7
            have HB7 := Lib.hid (bel_tr HB1.out hbb)
            have q2 := str_run ho7.bs
            have HS7 := Lib.hid (str_run (HBS.out.below hbb))
            clear ho7 hb7 hbb
            refine ⟨_, rfl, HS7.out, ?_⟩
            simp only [Act.put, List.setIfInBounds_toArray, List.set_cons_zero, List.set_cons_succ]
            refine ord_only (v := ?_) (w' := w7) (i := 4) (fuel := 2) (by simp; rfl) (by kernel_rfl) (by rfl) ?_ HS7.out ?_
            rotate_left
            · go_simp
              all_goals with_reducible rfl
            simp only [Act.put, List.setIfInBounds_toArray, List.set_cons_zero, List.set_cons_succ]
            refine ord_take (v := ?_) (i := 5) (fuel := 1) (by simp; rfl) (by kernel_rfl) (by kernel_rfl) (by kernel_rfl) (Or.inl ⟨by rfl, fun w' hSw => ?_⟩) HS7.out ?_
            rotate_left
            · go_simp
              all_goals with_reducible rfl
            simp only [Act.put, List.setIfInBounds_toArray, List.set_cons_zero, List.set_cons_succ]
            refine ord_take (v := ?_) (i := 6) (fuel := 0) (by simp; rfl) (by kernel_rfl) (by kernel_rfl) (by kernel_rfl) (Or.inl ⟨by rfl, fun w' hSw => ?_⟩) HS7.out ?_
            rotate_left
            · go_simp
              all_goals with_reducible rfl
            simp only [Act.put, List.setIfInBounds_toArray, List.set_cons_zero, List.set_cons_succ]
            refine ord_done (by kernel_rfl) ?_ _
            go_wp2
            go_ret
            exact ⟨rfl, HB7.out⟩
end Go.Proofs.Ytnefckiaojhcdaa


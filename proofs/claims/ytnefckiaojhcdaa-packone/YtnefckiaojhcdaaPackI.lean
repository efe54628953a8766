/- PackOne's walk. -/
import Derived.Test.YtnefckiaojhcdaaPackH
import Derived.Test.YtnefckiaojhcdaaHand
import Derived.Deep.RegionHeld3
namespace Go.Proofs.Ytnefckiaojhcdaa
open Go.RowKit
theorem app_list (a b : List UInt8) : (⟨a.toArray⟩ ++ ⟨b.toArray⟩ : ByteArray).toList = a ++ b := by
  have e : (⟨a.toArray⟩ ++ ⟨b.toArray⟩ : ByteArray) = ⟨(a ++ b).toArray⟩ := by
    apply ByteArray.ext
    simp
  rw [e]
  simp
theorem cases_nm {n m : Int} (hn : -9223372036854775808 ≤ n ∧ n ≤ 9223372036854775807) (hm : -9223372036854775808 ≤ m ∧ m ≤ 9223372036854775807) : ((n != m) = false ∧ (enc (zig n) == enc (zig m)) = true) ∨ ((n != m) = true ∧ (enc (zig n) == enc (zig m)) = false) := by
  by_cases h : n = m
  · subst h
    exact .inl ⟨by simp, beq_self_eq_true _⟩
  · refine .inr ⟨by simpa using h, ?_⟩
    have : enc (zig n) ≠ enc (zig m) := fun e => h (by
      have := enc_inj (zig_lt hn.1 hn.2) (zig_lt hm.1 hm.2) e
      rw [← zag_zig n, ← zag_zig m, this])
    simpa using this
theorem cases_len (n m : Int) : n < 0 ∨ (0 ≤ n ∧ m < n) ∨ (0 ≤ n ∧ n ≤ m ∧ (enc (zig n)).length ≤ (enc (zig m)).length) := by
  rcases Int.lt_or_le n 0 with h | h
  · exact .inl h
  · rcases Int.lt_or_le m n with h' | h'
    · exact .inr (.inl ⟨h, h'⟩)
    · refine .inr (.inr ⟨h, h', encF_mono 9 _ _ ?_⟩)
      unfold zig
      rw [if_neg (by omega), if_neg (by omega)]
      omega
set_option maxRecDepth 100000 in
set_option maxHeartbeats 12800000 in
theorem packOne_walk (A : Option Addr) (len cap : Nat) (l : List UInt8) (n m cut : Int) (w : World) (hl : Bs w w.heap.size A len cap l) (hr : cap ≤ 140737488351232) (hn : -9223372036854775808 ≤ n ∧ n ≤ 9223372036854775807) (hm : -9223372036854775808 ≤ m ∧ m ≤ 9223372036854775807) :
    Calls Try.prog 8 #[.slice A len cap, .int .i64 n, .int .i64 m, .int .i64 cut] w fun e w' => e = .returned (.bool true) ∧ Below w.heap.size w w' := by
  have hlen : len ≤ 140737488351232 := by have := hl.room; omega
  obtain ⟨qn, hqn⟩ : ∃ q, (enc (zig n)).length = q := ⟨_, rfl⟩
  obtain ⟨qm, hqm⟩ : ∃ q, (enc (zig m)).length = q := ⟨_, rfl⟩
  have hqn1 : 1 ≤ qn := by rw [← hqn]; exact (enc_len _).1
  have hqm1 : 1 ≤ qm := by rw [← hqm]; exact (enc_len _).1
  have hqn2 : qn ≤ 10 := by rw [← hqn]; exact (enc_len _).2
  have hqm2 : qm ≤ 10 := by rw [← hqm]; exact (enc_len _).2
  have zn : ((qn : Int) == 0) = false := by simp; omega
  have zm : ((qm : Int) == 0) = false := by simp; omega
  have HQN := Lib.hid hqn
  have HQM := Lib.hid hqm
  have HL := Lib.hid hl
  have HN := Lib.hid hn
  have HM := Lib.hid hm
  clear hl hn hm hqn hqm
  by_cases h0 : firstS l = 0
  · have H0 := Lib.hid h0
    clear h0
    go_enter Try.func8, Try.ntmps8
    go_wp2_with fail
    (with_reducible refine (readInt_no A len cap l _ HL.out (by omega) H0.out).mono ?_)
    rintro e w' ⟨rfl, rfl⟩
    go_wp2
    go_region
    have HBE := Lib.hid ((Below.refl w.heap.size w).drew)
    go_wp2_with fail
    (with_reducible refine (int_nil n qn _ HN.out.1 HN.out.2 HQN.out).mono ?_)
    rintro e w2 ⟨rfl, ho2, hb2⟩
    have HP2 := Lib.hid (show Own w2 w.heap.size w.heap.size qn 10 (enc (zig n)) from ho2)
    have HB2 := Lib.hid (bel_tr HBE.out hb2)
    have HG2 := Lib.hid (show w.heap.size < w2.heap.size from ho2.lt)
    clear ho2 hb2
    go_wp2_with fail
    (with_reducible refine (int_nil m qm _ HM.out.1 HM.out.2 HQM.out).mono ?_)
    rintro e w3 ⟨rfl, ho3, hb3⟩
    have HP3 := Lib.hid (HP2.out.below hb3 HG2.out)
    have HQ3 := Lib.hid ho3
    have HB3 := Lib.hid (bel_tr HB2.out hb3)
    have HG3 := Lib.hid (show w2.heap.size < w3.heap.size from ho3.lt)
    have HGP := Lib.hid (HP3.out.lt)
    clear ho3 hb3
    go_wp2_with fail
    refine (pick_c cut (qn : Int) _ (by omega) (by omega)).mono ?_
    rintro e w' ⟨_, ⟨r, ⟨r0, r1⟩, rfl⟩, rfl, rfl⟩
    obtain ⟨k, rfl⟩ := Int.eq_ofNat_of_zero_le r0
    have hk : k < qn := by omega
    have HC := Lib.hid (first_cut n (m := k) (by rw [HQN.out]; exact hk))
    have HBS := Lib.hid (HP3.out.bs.head (k := k) (by omega))
    have hk10 : k ≤ 10 := by omega
    have hki : (k : Int) ≤ 10 := by omega
    clear r0 r1
    go_wp2_with fail
    (with_reducible refine (readInt_no _ k 10 ((enc (zig n)).take k) _ HBS.out (by omega) HC.out).mono ?_)
    rintro e w' ⟨rfl, rfl⟩
    go_wp2_with fail
    (with_reducible refine (known4_c _).mono ?_)
    rintro e w5 ⟨rfl, hb5⟩
    have HB5 := Lib.hid (bel_tr HB3.out hb5)
    have cp := str_run ((HP3.out.below hb5 HGP.out).bs)
    have cq := str_run ((HQ3.out.below hb5 HG3.out).bs)
    clear hb5
    rcases cases_nm HN.out HM.out with ⟨b1, b2⟩ | ⟨b1, b2⟩
    all_goals
      rcases cases_len n m with hc | ⟨hc, hd⟩ | ⟨hc, hd, he⟩
      all_goals
        try rw [HQN.out, HQM.out] at he
    all_goals
      go_wp2
      go_ret
      exact ⟨rfl, HB5.out⟩
  · obtain ⟨s, hs⟩ : ∃ s, firstS l = s := ⟨_, rfl⟩
    obtain ⟨x, hx⟩ : ∃ x, firstN l = x := ⟨_, rfl⟩
    obtain ⟨q, hq⟩ : ∃ q, (enc (zig x)).length = q := ⟨_, rfl⟩
    have HX2 := Lib.hid (show -9223372036854775808 ≤ x ∧ x ≤ 9223372036854775807 by rw [← hx]; exact firstN_le l)
    have HB := Lib.hid (first_back h0)
    rw [hs, hx] at HB
    rw [hs] at h0
    have HS := Lib.hid hs
    have HX := Lib.hid hx
    have HQ := Lib.hid hq
    clear hs hx hq
    go_enter Try.func8, Try.ntmps8
    go_wp2_with fail
    (with_reducible refine (readInt_yes A len cap l _ x s HL.out (by omega) HX.out HS.out h0).mono ?_)
    rintro e w1 ⟨rfl, ho, hb⟩
    have HO1 := Lib.hid ho
    have HB1 := Lib.hid hb
    have HS1 := Lib.hid (show w.heap.size < w1.heap.size from ho.lt)
    clear ho hb
    go_upto_region 2 with fail
    go_cut [35] (fun s' wx => s' = .bool false ∧ Below w.heap.size w wx)
    case first =>
      as_aux_lemma =>
      have c1 : (convert 42 9 (.slice A len cap)).run Try.prog w1.drew = .ok (.string ⟨l.toArray⟩) w1.drew := str_run (HL.out.below HB1.out.drew)
      have c2 : (convert 42 9 (.slice (some ⟨w.heap.size, 0, none⟩) (len - s) (len - s))).run Try.prog w1.drew = .ok (.string ⟨(l.drop s).toArray⟩) w1.drew := str_run (HO1.out.bs.below (Below.refl _ _).drew)
      have hsum : ¬ 9223372036854775807 < (enc (zig x)).length + (l.drop s).length := by have := HQ.out; have := (enc_len (zig x)).2; rw [List.length_drop, HL.out.len]; omega
      have hsum' : ¬ 9223372036854775807 < (enc (zig x)).length + (l.length - s) := by have := (enc_len (zig x)).2; rw [HL.out.len]; omega
      have heq : (enc (zig x) ++ l.drop s == l) = true := by rw [HB.out]; exact beq_self_eq_true l
      go_region_with ((go_at_call 28; (with_reducible refine (int_nil x q _ HX2.out.1 HX2.out.2 HQ.out).mono ?_); rintro e w1' ⟨rfl, hoi, hbi⟩; have c3 := str_run (HL.out.below (HB1.out.trans (Below.mono ((Below.refl _ _).drew.trans hbi) HB1.out.size))); have c4 := str_run ((HO1.out.below (C := w1.heap.size) ((Below.refl _ _).drew.trans hbi) HS1.out).bs); have c5 : (convert 42 9 (.slice (some ⟨w1.heap.size, 0, none⟩) q 10)).run Try.prog w1' = .ok (.string ⟨(enc (zig x)).toArray⟩) w1' := str_run hoi.bs; have HBI := Lib.hid hbi))
      all_goals
        go_wp2_with fail
        go_meet
        case rel => exact ⟨by first | rfl | (simp [app_list, HB.out]; done), HB1.out.trans (Below.mono ((Below.refl _ _).drew.trans HBI.out) HB1.out.size)⟩
    case rest =>
      as_aux_lemma =>
      obtain ⟨rfl, hbe⟩ := hcut
      have HBE := Lib.hid hbe
      clear hbe

      go_wp2_with fail
      (with_reducible refine (int_nil n qn _ HN.out.1 HN.out.2 HQN.out).mono ?_)
      rintro e w2 ⟨rfl, ho2, hb2⟩
      have HP2 := Lib.hid (show Own w2 wc.heap.size wc.heap.size qn 10 (enc (zig n)) from ho2)
      have HB2 := Lib.hid (bel_tr HBE.out hb2)
      have HG2 := Lib.hid (show wc.heap.size < w2.heap.size from ho2.lt)
      clear ho2 hb2
      go_wp2_with fail
      (with_reducible refine (int_nil m qm _ HM.out.1 HM.out.2 HQM.out).mono ?_)
      rintro e w3 ⟨rfl, ho3, hb3⟩
      have HP3 := Lib.hid (HP2.out.below hb3 HG2.out)
      have HQ3 := Lib.hid ho3
      have HB3 := Lib.hid (bel_tr HB2.out hb3)
      have HG3 := Lib.hid (show w2.heap.size < w3.heap.size from ho3.lt)
      have HGP := Lib.hid (HP3.out.lt)
      clear ho3 hb3
      go_wp2_with fail
      refine (pick_c cut (qn : Int) _ (by omega) (by omega)).mono ?_
      rintro e w' ⟨_, ⟨r, ⟨r0, r1⟩, rfl⟩, rfl, rfl⟩
      obtain ⟨k, rfl⟩ := Int.eq_ofNat_of_zero_le r0
      have hk : k < qn := by omega
      have HC := Lib.hid (first_cut n (m := k) (by rw [HQN.out]; exact hk))
      have HBS := Lib.hid (HP3.out.bs.head (k := k) (by omega))
      have hk10 : k ≤ 10 := by omega
      have hki : (k : Int) ≤ 10 := by omega
      clear r0 r1
      go_wp2_with fail
      (with_reducible refine (readInt_no _ k 10 ((enc (zig n)).take k) _ HBS.out (by omega) HC.out).mono ?_)
      rintro e w' ⟨rfl, rfl⟩
      go_wp2_with fail
      (with_reducible refine (known4_c _).mono ?_)
      rintro e w5 ⟨rfl, hb5⟩
      have HB5 := Lib.hid (bel_tr HB3.out hb5)
      have cp := str_run ((HP3.out.below hb5 HGP.out).bs)
      have cq := str_run ((HQ3.out.below hb5 HG3.out).bs)
      clear hb5
      rcases cases_nm HN.out HM.out with ⟨b1, b2⟩ | ⟨b1, b2⟩
      all_goals
        rcases cases_len n m with hc | ⟨hc, hd⟩ | ⟨hc, hd, he⟩
        all_goals
          try rw [HQN.out, HQM.out] at he
      all_goals
        go_wp2
        go_ret
        exact ⟨rfl, HB5.out⟩
end Go.Proofs.Ytnefckiaojhcdaa

/- Package dec: digits and number at any text. -/
import Derived.Test.YtlhceelkefgjhaaDoorTextJ
namespace Go.Proofs.YtlhceelkefgjhaaDoor
open Go.RowKit
theorem num_step' {s0 s1 t0 t1 : Int} {q : Bool} {M d : Nat} (e1 : v2 s0 s1 = M * 10) (hM : M * 10 + d < 10000000000000000000000000000000) (ha : AddR s0 s1 d 0 t0 t1 q) : U64 t0 ∧ U64 t1 ∧ v2 t0 t1 = M * 10 + d := by
  have e2 : v2 (d : Int) 0 = d := by simp [v2]
  obtain ⟨a, b, ⟨_, _, f⟩ | ⟨hl, _⟩⟩ := ha
  · exact ⟨a, b, by rw [f, e1, e2]⟩
  · rw [e1, e2] at hl; omega
set_option maxHeartbeats 800000 in
theorem digits_none (most : Int) (w : World) :
    Calls Tryd.prog 18 #[.string ⟨([] : List UInt8).toArray⟩, .int .i64 most] w fun e w' => e = .returned (.bool false) ∧ w = w' := by
  go_enter Tryd.func18, Tryd.ntmps18
  go_wp2
  go_ret
  exact ⟨rfl, rfl⟩
theorem all_take {l : List UInt8} {k : Nat} (hk : k < l.length) (h : (l.take k).all isDig = true) (hc : isDig l[k] = true) : (l.take (k + 1)).all isDig = true := by
  rw [List.take_succ_eq_append_getElem hk, List.all_append, h]
  simp [hc]
set_option maxRecDepth 100000 in
set_option maxHeartbeats 800000 in
theorem digits_bad (l : List UInt8) (most : Int) (w : World) (hl : 1 ≤ l.length) (hm : (l.length : Int) ≤ most) (hb : l.length ≤ 1000) (hd : l.all isDig = false) :
    Calls Tryd.prog 18 #[.string ⟨l.toArray⟩, .int .i64 most] w fun e w' => e = .returned (.bool false) ∧ w = w' := by
  have g1 : decide ((l.length : Int) < 1) = false := by simp; omega
  have g2 : decide (most < (l.length : Int)) = false := by simp; omega
  have HD := Lib.hid hd
  clear hd
  go_enter Tryd.func18, Tryd.ntmps18
  go_wp2
  go_loop [17] (fun s => ∃ k : Nat, k ≤ l.length ∧ s = .int .i64 k ∧ (l.take k).all isDig = true) (fun s => l.length - (intOf s).toNat)
  case atStart => exact ⟨0, Nat.zero_le _, rfl, by simp⟩
  case round =>
    obtain ⟨k, hk, rfl, hal⟩ := hrel
    have HAL := Lib.hid hal
    clear hal
    by_cases hlt : k < l.length
    · by_cases hc : isDig l[k] = true
      · have h1 : 48 ≤ ((⟨l.toArray⟩ : ByteArray)[k]'hlt).toNat ∧ ((⟨l.toArray⟩ : ByteArray)[k]'hlt).toNat ≤ 57 := by
          have := hc
          simp [isDig] at this
          exact this
        have HN := Lib.hid (all_take hlt HAL.out hc)
        clear hc
        go_wp2
        all_goals first
          | exact ⟨⟨k + 1, by omega, by go_num, HN.out⟩, by simp [intOf]; omega⟩
          | (exfalso; omega)
      · have h1 : ¬ (48 ≤ ((⟨l.toArray⟩ : ByteArray)[k]'hlt).toNat ∧ ((⟨l.toArray⟩ : ByteArray)[k]'hlt).toNat ≤ 57) := by
          intro h
          apply hc
          simp [isDig]
          exact h
        clear hc
        go_wp2
        all_goals first
          | (go_ret; exact ⟨rfl, rfl⟩)
          | (exfalso; omega)
    · exfalso
      have := HAL.out
      rw [List.take_of_length_le (by omega), HD.out] at this
      cases this
set_option maxHeartbeats 800000 in
theorem digits_long' (l : List UInt8) (most : Int) (w : World) (hl : 1 ≤ l.length) (hm : most < (l.length : Int)) (hb : l.length ≤ 281474976710656) :
    Calls Tryd.prog 18 #[.string ⟨l.toArray⟩, .int .i64 most] w fun e w' => e = .returned (.bool false) ∧ w = w' := by
  have g1 : decide ((l.length : Int) < 1) = false := by simp; omega
  have g2 : decide (most < (l.length : Int)) = true := by simp; omega
  go_enter Tryd.func18, Tryd.ntmps18
  go_wp2
  go_ret
  exact ⟨rfl, rfl⟩
theorem digits_any (l : List UInt8) (most : Int) (β : Bool) (w : World) (hm : most ≤ 1000) (hβ : digB l most = β) (hb : l.length ≤ 281474976710656) :
    Calls Tryd.prog 18 #[.string ⟨l.toArray⟩, .int .i64 most] w fun e w' => e = .returned (.bool β) ∧ w = w' := by
  subst hβ
  unfold digB
  by_cases h0 : l.length = 0
  · obtain rfl : l = [] := List.eq_nil_of_length_eq_zero h0
    exact digits_none most w
  · by_cases h1 : (l.length : Int) ≤ most
    · rw [decide_eq_true (show 1 ≤ l.length ∧ (l.length : Int) ≤ most from ⟨by omega, h1⟩), Bool.true_and]
      cases hd : l.all isDig with
      | true => exact digits_yes l most w (by omega) h1 (by omega) hd
      | false => exact digits_bad l most w (by omega) h1 (by omega) hd
    · rw [decide_eq_false (show ¬ (1 ≤ l.length ∧ (l.length : Int) ≤ most) from fun h => h1 h.2), Bool.false_and]
      exact digits_long' l most w (by omega) (by omega) hb
set_option maxRecDepth 100000 in
set_option maxHeartbeats 3200000 in
theorem number_over (l : List UInt8) (w : World) (hb : l.length ≤ 1000) (hd : l.all isDig = true) (hN : 1000000000000000000000000000000 ≤ numL l) :
    Calls Tryd.prog 19 #[.string ⟨l.toArray⟩] w (Ret w (· = .tuple #[.agg #[.int .u64 0, .int .u64 0], .bool false])) := by
  have HD := Lib.hid (take_dig hd)
  have W0 := Lib.hid (n0 w)
  have HN := Lib.hid hN
  have hle : w.heap.size ≤ w.heap.size + 1 + 1 := by omega
  clear hd hN
  go_enter Tryd.func19, Tryd.ntmps19
  go_wp2_with fail
  refine (of_x 0 _).mono ?_
  rintro e w1 ⟨rfl, rfl⟩
  go_wp2_with fail
  go_loopw [9] (fun s wr => ∃ (k : Nat) (x y : Int), k ≤ l.length ∧ s = .int .i64 k ∧ (U64 x ∧ U64 y ∧ v2 x y = numL (l.take k) ∧ numL (l.take k) < 1000000000000000000000000000000) ∧ HB w [(w.heap.size + 1 + 1, 24, #[.int .u64 x, .int .u64 y]), (w.heap.size, 24, #[.int .u64 0, .int .u64 0])] wr) (fun s _ => l.length - (intOf s).toNat)
  case atStart => exact ⟨0, 0, 0, Nat.zero_le _, rfl, ⟨u64_0, u64_0, rfl, by rw [List.take_zero]; decide⟩, W0.out⟩
  case round =>
    clear W0
    obtain ⟨k, x, y, hk, rfl, ⟨hx, hy, ex, hlt30⟩, W⟩ := hrel
    have EX := Lib.hid ex
    have HLT := Lib.hid hlt30
    clear ex hlt30
    by_cases hlt : k < l.length
    · have hc := HD.out k hlt
      have hNt := numL_take l k hlt
      have hNl := numL_le l (k + 1) hlt
      obtain ⟨d, hdd⟩ : ∃ d, l[k].toNat - 48 = d := ⟨_, rfl⟩
      have hwr : IntKind.u8.wrap ((((⟨l.toArray⟩ : ByteArray)[k]'hlt).toNat : Int) - 48) = (d : Int) := by
        have := u8_wrap hc.1 hc.2
        rw [hdd] at this
        exact this
      have hd9 : d ≤ 9 := by omega
      have ud : U64 (d : Int) := by unfold U64; omega
      have hwr2 : IntKind.u64.wrap (d : Int) = (d : Int) := by rw [IntKind.wrap_u64]; omega
      rw [hdd] at hNt
      have hM : numL (l.take k) * 10 + d < 10000000000000000000000000000000 := by have := HLT.out; omega
      have HM := Lib.hid hM
      have HNT := Lib.hid hNt
      have HNL := Lib.hid hNl
      clear hNt hNl hM hc hdd
      have B4 := W.blk (g := w.heap.size + 1 + 1) (t := 24) (cs := #[.int .u64 x, .int .u64 y]) (by simp)
      have B0 := W.blk (g := w.heap.size) (t := 24) (cs := #[.int .u64 0, .int .u64 0]) (by simp)
      have HW := W.1
      have c0 := B4.cell 0
      have c1 := B4.cell 1
      simp at c0 c1
      go_upto_region 5 with fail
      go_cut [12] (fun _ wx => ∃ s0 s1 : Int, (U64 s0 ∧ U64 s1 ∧ v2 s0 s1 = numL (l.take k) * 10) ∧ HB w [(w.heap.size + 1 + 1, 24, #[.int .u64 s0, .int .u64 s1]), (w.heap.size, 24, #[.int .u64 0, .int .u64 0])] wx)
      case first => as_aux_lemma =>
        go_region_with (first
            | (go_at_call 20; refine (of_x 10 _).mono ?_; rintro e w1 ⟨rfl, rfl⟩; have hz := B4.lt)
            | (go_at_call 26; refine (mul_c x y 10 0 _ hx hy u64_10 u64_0).mono ?_; rintro e w2 ⟨_, ⟨m0, m1, m2, m3, HMu, rfl⟩, rfl, hb2⟩)
            | (go_at_call 25; refine (short_c _ _ _ _ _).mono ?_; rintro e w3 ⟨_, ⟨s0, s1, p, HS, rfl⟩, rfl, hb3⟩; have BB := (((B4.alloc _).drew).below hb2 (by have := B4.lt; simp; omega)).below hb3 (by have := hb2.size; have := B4.lt; simp at *; omega); have d0 := BB.cell 0; have d1 := BB.cell 1; have f0 := BB.frozen 0; have f1 := BB.frozen 1; simp at d0 d1))
        all_goals
          have BZ := ((B0.alloc (.cells #[.int .u64 10, .int .u64 0] 24)).drew.below hb2 (by have := B0.lt; simp; omega)).below hb3 (by have := hb2.size; have := B0.lt; simp at *; omega)
          have HZ := (((HW.alloc HW.size (.cells #[.int .u64 10, .int .u64 0] 24)).drew).trans (hb2.mono (by have := HW.size; simp; omega))).trans (hb3.mono (by have := hb2.size; have := HW.size; simp at *; omega))
          have hsu := short_u EX.out HLT.out HMu HS
          have W3 : HB w [(w.heap.size + 1 + 1, 24, #[.int .u64 x, .int .u64 y]), (w.heap.size, 24, #[.int .u64 0, .int .u64 0])] w3 := ⟨HZ, by simp; exact ⟨BB, BZ⟩⟩
          have W4 := Lib.hid (HB.put2 (g := w.heap.size + 1 + 1) (t := 24) (a := .int .u64 x) (b := .int .u64 y) (a' := .int .u64 s0) (b' := .int .u64 s1) (bs' := [(w.heap.size, 24, #[.int .u64 0, .int .u64 0])]) W3 (by simp) hle (by simp; omega))
          clear W3 BZ HZ
          go_wp2_with fail
          go_meet
          case rel => exact ⟨s0, s1, hsu, W4.out⟩
      case rest => as_aux_lemma =>
        clear W B4 B0 HW c0 c1 hx hy EX
        obtain ⟨s0, s1, ⟨hs0, hs1, es⟩, W⟩ := hcut
        have ES := Lib.hid es
        clear es
        have B4 := W.blk (g := w.heap.size + 1 + 1) (t := 24) (cs := #[.int .u64 s0, .int .u64 s1]) (by simp)
        have B0 := W.blk (g := w.heap.size) (t := 24) (cs := #[.int .u64 0, .int .u64 0]) (by simp)
        have HW := W.1
        have c0 := B4.cell 0
        have c1 := B4.cell 1
        simp at c0 c1
        go_upto_region 6 with fail
        go_cut [19] (fun _ wx => ∃ t0 t1 : Int, (U64 t0 ∧ U64 t1 ∧ v2 t0 t1 = numL (l.take k) * 10 + d) ∧ HB w [(w.heap.size + 1 + 1, 24, #[.int .u64 t0, .int .u64 t1]), (w.heap.size, 24, #[.int .u64 0, .int .u64 0])] wx)
        case first => as_aux_lemma =>
          go_region_with (first
              | (go_at_call 20; refine (of_x (d : Int) _).mono ?_; rintro e w1 ⟨rfl, rfl⟩; have hz := B4.lt)
              | (go_at_call 24; refine (add_c s0 s1 (d : Int) 0 _ hs0 hs1 ud u64_0).mono ?_; rintro e w3 ⟨_, ⟨t0, t1, p, HA, rfl⟩, rfl, hb3⟩; have BB := ((B4.alloc _).drew).below hb3 (by have := B4.lt; simp; omega); have d0 := BB.cell 0; have d1 := BB.cell 1; have f0 := BB.frozen 0; have f1 := BB.frozen 1; simp at d0 d1))
          all_goals
            have BZ := (B0.alloc (.cells #[.int .u64 (d : Int), .int .u64 0] 24)).drew.below hb3 (by have := B0.lt; simp; omega)
            have HZ := ((HW.alloc HW.size (.cells #[.int .u64 (d : Int), .int .u64 0] 24)).drew).trans (hb3.mono (by have := HW.size; simp; omega))
            have hsu := num_step' ES.out HM.out HA
            have W3 : HB w [(w.heap.size + 1 + 1, 24, #[.int .u64 s0, .int .u64 s1]), (w.heap.size, 24, #[.int .u64 0, .int .u64 0])] w3 := ⟨HZ, by simp; exact ⟨BB, BZ⟩⟩
            have W4 := Lib.hid (HB.put2 (g := w.heap.size + 1 + 1) (t := 24) (a := .int .u64 s0) (b := .int .u64 s1) (a' := .int .u64 t0) (b' := .int .u64 t1) (bs' := [(w.heap.size, 24, #[.int .u64 0, .int .u64 0])]) W3 (by simp) hle (by simp; omega))
            clear W3 BZ HZ
            go_wp2_with fail
            go_meet
            case rel => exact ⟨t0, t1, hsu, W4.out⟩
        case rest => as_aux_lemma =>
          clear W B4 B0 HW c0 c1 hs0 hs1 ES hwr hwr2
          obtain ⟨t0, t1, ⟨ht0, ht1, et⟩, W⟩ := hcut
          by_cases h30 : numL (l.take k) * 10 + d < 1000000000000000000000000000000
          · have hf : fitB t0 t1 = true := by unfold fitB; rw [et]; simp [h30]
            have H30 := Lib.hid (show numL (l.take (k + 1)) < 1000000000000000000000000000000 by rw [HNT.out]; exact h30)
            have ET := Lib.hid (et.trans HNT.out.symm)
            obtain ⟨lq, q0, q1⟩ := HB.two (t := 24) (g := w.heap.size + 1 + 1) (a := .int .u64 t0) (b := .int .u64 t1) W (by simp)
            have C := fits_c t0 t1 wc ht0 ht1
            rw [hf] at C
            have HC := Lib.hid C
            clear et hf C h30
            go_wp2_with fail
            refine HC.out.mono ?_
            rintro e w5 ⟨_, rfl, rfl, hb5⟩
            have W5 := Lib.hid (W.below hb5)
            clear HC hb5 W q0 q1 lq
            go_wp2
            go_roundw
            case rel => exact ⟨k + 1, t0, t1, by omega, by go_num, ⟨ht0, ht1, ET.out, H30.out⟩, W5.out⟩
            case measure => simp [intOf]; omega
          · have hf : fitB t0 t1 = false := by unfold fitB; rw [et]; simp; omega
            obtain ⟨lq, q0, q1⟩ := HB.two (t := 24) (g := w.heap.size + 1 + 1) (a := .int .u64 t0) (b := .int .u64 t1) W (by simp)
            have C := fits_c t0 t1 wc ht0 ht1
            rw [hf] at C
            have HC := Lib.hid C
            clear et hf C h30
            go_wp2_with fail
            refine HC.out.mono ?_
            rintro e w5 ⟨_, rfl, rfl, hb5⟩
            have W5 := W.below hb5
            clear HC hb5 W q0 q1 lq
            obtain ⟨lp, p0, p1⟩ := HB.two (t := 24) (g := w.heap.size) (a := .int .u64 0) (b := .int .u64 0) W5 (by simp)
            have B0 := W5.blk (g := w.heap.size) (t := 24) (cs := #[.int .u64 0, .int .u64 0]) (by simp)
            have f0 := B0.frozen 0
            have f1 := B0.frozen 1
            have HB1 := Lib.hid W5.1
            clear W5 B0
            go_wp2
            exact bodyPost_ret (v := .tuple #[.agg #[.int .u64 0, .int .u64 0], .bool false]) (by simp [results, Tryd.results19, go_sem, p0, p1]) rfl ⟨_, rfl, rfl, bel2 HB1.out (Nat.le_refl _)⟩
    · exfalso
      obtain rfl : k = l.length := by omega
      have h1 := HLT.out
      rw [List.take_length] at h1
      have := HN.out
      omega
end Go.Proofs.YtlhceelkefgjhaaDoor

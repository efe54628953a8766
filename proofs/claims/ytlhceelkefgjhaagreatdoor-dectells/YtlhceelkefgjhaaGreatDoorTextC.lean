/- Package dec: number, where it fits. -/
import Derived.Test.YtlhceelkefgjhaaGreatDoorTextB
import Derived.Test.YtlhceelkefgjhaaGreatDoorDecC
import Derived.Test.YtlhceelkefgjhaaGreatDoorLimbI
namespace Go.Proofs.YtlhceelkefgjhaaGreatDoor
open Go.RowKit

/-- The number that digits tell. -/
def numL (l : List UInt8) : Nat := l.foldl (fun n c => n * 10 + (c.toNat - 48)) 0
theorem numL_snoc (l : List UInt8) (c : UInt8) : numL (l ++ [c]) = numL l * 10 + (c.toNat - 48) := by simp [numL]
theorem numL_take (l : List UInt8) (k : Nat) (hk : k < l.length) : numL (l.take (k + 1)) = numL (l.take k) * 10 + (l[k].toNat - 48) := by
  rw [List.take_succ_eq_append_getElem hk, numL_snoc]
theorem numL_mono (l : List UInt8) : ∀ d k, k + d = l.length → numL (l.take k) ≤ numL l
  | 0, k, h => by rw [List.take_of_length_le (by omega)]; exact Nat.le_refl _
  | d + 1, k, h => by
    have h1 := numL_mono l d (k + 1) (by omega)
    rw [numL_take l k (by omega)] at h1
    omega
theorem numL_le (l : List UInt8) (k : Nat) (hk : k ≤ l.length) : numL (l.take k) ≤ numL l := numL_mono l (l.length - k) k (by omega)
theorem u8_wrap {n : Nat} (h : 48 ≤ n) (h' : n ≤ 57) : IntKind.u8.wrap ((n : Int) - 48) = ((n - 48 : Nat) : Int) := by
  rw [IntKind.wrap_u8]
  omega
theorem ten_v2 : v2 10 0 = 10 := by simp [v2]
theorem num_step {s0 s1 t0 t1 : Int} {q : Bool} {M d : Nat} (e1 : v2 s0 s1 = M * 10) (hM : M * 10 + d < 1000000000000000000000000000000) (ha : AddR s0 s1 d 0 t0 t1 q) : U64 t0 ∧ U64 t1 ∧ v2 t0 t1 = M * 10 + d := by
  have e2 : v2 (d : Int) 0 = d := by simp [v2]
  obtain ⟨a, b, ⟨_, _, f⟩ | ⟨hl, _⟩⟩ := ha
  · exact ⟨a, b, by rw [f, e1, e2]⟩
  · rw [e1, e2] at hl; omega
theorem short_u {x y c0 c1 c2 c3 s0 s1 : Int} {p : Bool} {M : Nat} (e : v2 x y = M) (hM : M < 1000000000000000000000000000000) (hm : MulR x y 10 0 c0 c1 c2 c3) (hs : ShortR c0 c1 c2 c3 s0 s1 p) : U64 s0 ∧ U64 s1 ∧ v2 s0 s1 = M * 10 := by
  obtain ⟨_, a, b, f⟩ := mul_short hm hs (by rw [e, ten_v2]; omega)
  exact ⟨a, b, by rw [f, e, ten_v2]⟩
theorem n0 (w : World) : HB w [(w.heap.size + 1 + 1, 23, #[.int .u64 0, .int .u64 0]), (w.heap.size, 23, #[.int .u64 0, .int .u64 0])] (((w.alloc (.cells #[.int .u64 0, .int .u64 0] 23)).alloc (.cells #[.int .u64 0, .int .u64 0] 23)).alloc (.cells #[.int .u64 0, .int .u64 0] 23)) := by
  have h := HB.sub (bs' := [(w.heap.size + 1 + 1, 23, #[.int .u64 0, .int .u64 0]), (w.heap.size, 23, #[.int .u64 0, .int .u64 0])]) ((((HB.start (Below.refl _ w)).push #[.int .u64 0, .int .u64 0] 23).push #[.int .u64 0, .int .u64 0] 23).push #[.int .u64 0, .int .u64 0] 23) (by simp)
  exact h

set_option maxRecDepth 100000 in
set_option maxHeartbeats 3200000 in
theorem number_ok (l : List UInt8) (w : World) (hb : l.length ≤ 1000) (hd : l.all isDig = true) (hN : numL l < 1000000000000000000000000000000) :
    Calls Tryz.prog 47 #[.string ⟨l.toArray⟩] w (Ret w (IsUp (numL l))) := by
  have HD := Lib.hid (take_dig hd)
  have W0 := Lib.hid (n0 w)
  have HN := Lib.hid hN
  have hle : w.heap.size ≤ w.heap.size + 1 + 1 := by omega
  clear hd hN
  go_enter Tryz.func47, Tryz.ntmps47
  go_wp2_with fail
  refine (of_x 0 _).mono ?_
  rintro e w1 ⟨rfl, rfl⟩
  go_wp2_with fail
  go_loopw [9] (fun s wr => ∃ (k : Nat) (x y : Int), k ≤ l.length ∧ s = .int .i64 k ∧ (U64 x ∧ U64 y ∧ v2 x y = numL (l.take k)) ∧ HB w [(w.heap.size + 1 + 1, 23, #[.int .u64 x, .int .u64 y]), (w.heap.size, 23, #[.int .u64 0, .int .u64 0])] wr) (fun s _ => l.length - (intOf s).toNat)
  case atStart => exact ⟨0, 0, 0, Nat.zero_le _, rfl, ⟨u64_0, u64_0, rfl⟩, W0.out⟩
  case round =>
    clear W0
    obtain ⟨k, x, y, hk, rfl, ⟨hx, hy, ex⟩, W⟩ := hrel
    have EX := Lib.hid ex
    clear ex
    by_cases hlt : k < l.length
    · have hc := HD.out k hlt
      have hNt := numL_take l k hlt
      have hNl := numL_le l (k + 1) hlt
      obtain ⟨d, hdd⟩ : ∃ d, l[k].toNat - 48 = d := ⟨_, rfl⟩
      have hwr : IntKind.u8.wrap ((((⟨l.toArray⟩ : ByteArray)[k]'hlt).toNat : Int) - 48) = (d : Int) := by
        have := u8_wrap hc.1 hc.2
        rw [hdd] at this
        exact this
      have hd9 : d ≤ 9 := by omega
      have ud : U64 (d : Int) := by unfold U64; omega
      have hwr2 : IntKind.u64.wrap (d : Int) = (d : Int) := by rw [IntKind.wrap_u64]; omega
      rw [hdd] at hNt
      have hM : numL (l.take k) * 10 + d < 1000000000000000000000000000000 := by have := HN.out; omega
      have HM := Lib.hid hM
      have HNT := Lib.hid hNt
      clear hNt hNl hM hc hdd
      have B4 := W.blk (g := w.heap.size + 1 + 1) (t := 23) (cs := #[.int .u64 x, .int .u64 y]) (by simp)
      have B0 := W.blk (g := w.heap.size) (t := 23) (cs := #[.int .u64 0, .int .u64 0]) (by simp)
      have HW := W.1
      have c0 := B4.cell 0
      have c1 := B4.cell 1
      simp at c0 c1
      go_upto_region 5 with fail
      go_cut [12] (fun _ wx => ∃ s0 s1 : Int, (U64 s0 ∧ U64 s1 ∧ v2 s0 s1 = numL (l.take k) * 10) ∧ HB w [(w.heap.size + 1 + 1, 23, #[.int .u64 s0, .int .u64 s1]), (w.heap.size, 23, #[.int .u64 0, .int .u64 0])] wx)
      case first => as_aux_lemma =>
        go_region_with (first
            | (go_at_call 48; refine (of_x 10 _).mono ?_; rintro e w1 ⟨rfl, rfl⟩; have hz := B4.lt)
            | (go_at_call 35; refine (mul_c x y 10 0 _ hx hy u64_10 u64_0).mono ?_; rintro e w2 ⟨_, ⟨m0, m1, m2, m3, HMu, rfl⟩, rfl, hb2⟩)
            | (go_at_call 34; refine (short_c _ _ _ _ _).mono ?_; rintro e w3 ⟨_, ⟨s0, s1, p, HS, rfl⟩, rfl, hb3⟩; have BB := (((B4.alloc _).drew).below hb2 (by have := B4.lt; simp; omega)).below hb3 (by have := hb2.size; have := B4.lt; simp at *; omega); have d0 := BB.cell 0; have d1 := BB.cell 1; have f0 := BB.frozen 0; have f1 := BB.frozen 1; simp at d0 d1))
        all_goals
          have BZ := ((B0.alloc (.cells #[.int .u64 10, .int .u64 0] 23)).drew.below hb2 (by have := B0.lt; simp; omega)).below hb3 (by have := hb2.size; have := B0.lt; simp at *; omega)
          have HZ := (((HW.alloc HW.size (.cells #[.int .u64 10, .int .u64 0] 23)).drew).trans (hb2.mono (by have := HW.size; simp; omega))).trans (hb3.mono (by have := hb2.size; have := HW.size; simp at *; omega))
          have hsu := short_u EX.out (by have := HM.out; omega) HMu HS
          have W3 : HB w [(w.heap.size + 1 + 1, 23, #[.int .u64 x, .int .u64 y]), (w.heap.size, 23, #[.int .u64 0, .int .u64 0])] w3 := ⟨HZ, by simp; exact ⟨BB, BZ⟩⟩
          have W4 := Lib.hid (HB.put2 (g := w.heap.size + 1 + 1) (t := 23) (a := .int .u64 x) (b := .int .u64 y) (a' := .int .u64 s0) (b' := .int .u64 s1) (bs' := [(w.heap.size, 23, #[.int .u64 0, .int .u64 0])]) W3 (by simp) hle (by simp; omega))
          clear W3 BZ HZ
          go_wp2_with fail
          go_meet
          case rel => exact ⟨s0, s1, hsu, W4.out⟩
      case rest => as_aux_lemma =>
        clear W B4 B0 HW c0 c1 hx hy EX
        obtain ⟨s0, s1, ⟨hs0, hs1, es⟩, W⟩ := hcut
        have ES := Lib.hid es
        clear es
        have B4 := W.blk (g := w.heap.size + 1 + 1) (t := 23) (cs := #[.int .u64 s0, .int .u64 s1]) (by simp)
        have B0 := W.blk (g := w.heap.size) (t := 23) (cs := #[.int .u64 0, .int .u64 0]) (by simp)
        have HW := W.1
        have c0 := B4.cell 0
        have c1 := B4.cell 1
        simp at c0 c1
        go_upto_region 6 with fail
        go_cut [19] (fun _ wx => ∃ t0 t1 : Int, (U64 t0 ∧ U64 t1 ∧ v2 t0 t1 = numL (l.take k) * 10 + d) ∧ HB w [(w.heap.size + 1 + 1, 23, #[.int .u64 t0, .int .u64 t1]), (w.heap.size, 23, #[.int .u64 0, .int .u64 0])] wx)
        case first => as_aux_lemma =>
          go_region_with (first
              | (go_at_call 48; refine (of_x (d : Int) _).mono ?_; rintro e w1 ⟨rfl, rfl⟩; have hz := B4.lt)
              | (go_at_call 32; refine (add_c s0 s1 (d : Int) 0 _ hs0 hs1 ud u64_0).mono ?_; rintro e w3 ⟨_, ⟨t0, t1, p, HA, rfl⟩, rfl, hb3⟩; have BB := ((B4.alloc _).drew).below hb3 (by have := B4.lt; simp; omega); have d0 := BB.cell 0; have d1 := BB.cell 1; have f0 := BB.frozen 0; have f1 := BB.frozen 1; simp at d0 d1))
          all_goals
            have BZ := (B0.alloc (.cells #[.int .u64 (d : Int), .int .u64 0] 23)).drew.below hb3 (by have := B0.lt; simp; omega)
            have HZ := ((HW.alloc HW.size (.cells #[.int .u64 (d : Int), .int .u64 0] 23)).drew).trans (hb3.mono (by have := HW.size; simp; omega))
            have hsu := num_step ES.out HM.out HA
            have W3 : HB w [(w.heap.size + 1 + 1, 23, #[.int .u64 s0, .int .u64 s1]), (w.heap.size, 23, #[.int .u64 0, .int .u64 0])] w3 := ⟨HZ, by simp; exact ⟨BB, BZ⟩⟩
            have W4 := Lib.hid (HB.put2 (g := w.heap.size + 1 + 1) (t := 23) (a := .int .u64 s0) (b := .int .u64 s1) (a' := .int .u64 t0) (b' := .int .u64 t1) (bs' := [(w.heap.size, 23, #[.int .u64 0, .int .u64 0])]) W3 (by simp) hle (by simp; omega))
            clear W3 BZ HZ
            go_wp2_with fail
            go_meet
            case rel => exact ⟨t0, t1, hsu, W4.out⟩
        case rest => as_aux_lemma =>
          clear W B4 B0 HW c0 c1 hs0 hs1 ES hwr hwr2
          obtain ⟨t0, t1, ⟨ht0, ht1, et⟩, W⟩ := hcut
          have hf : fitB t0 t1 = true := by unfold fitB; rw [et]; simp [HM.out]
          have ET := Lib.hid (et.trans HNT.out.symm)
          obtain ⟨lq, q0, q1⟩ := HB.two (t := 23) (g := w.heap.size + 1 + 1) (a := .int .u64 t0) (b := .int .u64 t1) W (by simp)
          have C := fits_c t0 t1 wc ht0 ht1
          rw [hf] at C
          have HC := Lib.hid C
          clear et hf C
          go_wp2_with fail
          refine HC.out.mono ?_
          rintro e w5 ⟨_, rfl, rfl, hb5⟩
          have W5 := Lib.hid (W.below hb5)
          clear HC hb5 W q0 q1 lq
          go_wp2
          go_roundw
          case rel => exact ⟨k + 1, t0, t1, by omega, by go_num, ⟨ht0, ht1, ET.out⟩, W5.out⟩
          case measure => simp [intOf]; omega
    · obtain rfl : k = l.length := by omega
      have ex := EX.out
      rw [List.take_length] at ex
      have EXL := Lib.hid ex
      obtain ⟨lq, q0, q1⟩ := HB.two (t := 23) (g := w.heap.size + 1 + 1) (a := .int .u64 x) (b := .int .u64 y) W (by simp)
      obtain ⟨lp, p0, p1⟩ := HB.two (t := 23) (g := w.heap.size) (a := .int .u64 0) (b := .int .u64 0) W (by simp)
      have B0 := W.blk (g := w.heap.size) (t := 23) (cs := #[.int .u64 0, .int .u64 0]) (by simp)
      have f0 := B0.frozen 0
      have f1 := B0.frozen 1
      have HB1 := Lib.hid W.1
      clear W B0 ex EX
      go_wp2
      exact bodyPost_ret (v := .tuple #[.agg #[.int .u64 x, .int .u64 y], .bool true]) (by simp [results, Tryz.results47, go_sem, p0, p1]) rfl ⟨_, ⟨_, _, ⟨hx, hy, EXL.out⟩, rfl⟩, rfl, bel2 HB1.out (Nat.le_refl _)⟩
end Go.Proofs.YtlhceelkefgjhaaGreatDoor

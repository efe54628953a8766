/- Contract: Mul. -/
import Derived.Test.YtkaflkofffgndaaDoorLimbE
import Derived.Test.YtkaflkofffgndaaDoorBlk
import Derived.Test.YtkaflkofffgndaaDoorPlain4
import Derived.Deep.DeepCutAuto
import Derived.Deep.RegionHeld3
namespace Go.Proofs.YtkaflkofffgndaaDoor
open Go.RowKit

def MulCut (a0 a1 b0 b1 : Int) (W : World) (s5 s6 : Value) (wx : World) : Prop :=
  ∃ (g5 g6 : Nat) (h0 h1 h2 h3 k0 k1 k2 k3 : Int), s5 = .pointer (some ⟨g5, 0, none⟩) ∧ s6 = .pointer (some ⟨g6, 0, none⟩) ∧ HalvesW a0 a1 h0 h1 h2 h3 ∧ HalvesW b0 b1 k0 k1 k2 k3 ∧
    Blk wx g5 61 #[.int .u32 h0, .int .u32 h1, .int .u32 h2, .int .u32 h3] ∧ Blk wx g6 61 #[.int .u32 k0, .int .u32 k1, .int .u32 k2, .int .u32 k3] ∧ Below W.heap.size W wx

set_option maxHeartbeats 400000 in
theorem halves_x (a b : Int) (w : World) (ha : U64 a) (hb : U64 b) :
    Calls Tryd.prog 30 #[.agg #[.int .u64 a, .int .u64 b]] w fun e w' => ∃ h0 h1 h2 h3 : Int, HalvesW a b h0 h1 h2 h3 ∧ e = .returned (.agg #[.int .u32 h0, .int .u32 h1, .int .u32 h2, .int .u32 h3]) ∧
      (w.alloc (.cells #[.int .u64 a, .int .u64 b] 25)).alloc (.cells #[.int .u32 h0, .int .u32 h1, .int .u32 h2, .int .u32 h3] 61) = w' := by
  have H := halvesW_of a b ha hb
  go_enter Tryd.func30, Tryd.ntmps30
  go_wp2
  exact bodyPost_ret (v := .agg #[_, _, _, _]) (by simp [results, Tryd.results30, go_sem]) rfl ⟨_, _, _, _, H, rfl, rfl⟩

/-- Four halves of a number. -/
def HalvesN (X x0 x1 x2 x3 : Nat) : Prop := x0 < 4294967296 ∧ x1 < 4294967296 ∧ x2 < 4294967296 ∧ x3 < 4294967296 ∧ X = x0 + x1 * 4294967296 + x2 * 18446744073709551616 + x3 * 79228162514264337593543950336
theorem halvesN_of {a b : Int} {x0 x1 x2 x3 : Nat} (ha : U64 a) (hb : U64 b) (h : HalvesW a b x0 x1 x2 x3) : HalvesN (v2 a b) x0 x1 x2 x3 := by
  unfold HalvesW U32 U64 at *
  unfold HalvesN v2
  omega
def mk32 (n : Nat) : Value := .int .u32 n
theorem idx4_0 (x0 x1 x2 x3 : Nat) (w : World) : (Instr.index 61 (.agg #[.int .u32 x0, .int .u32 x1, .int .u32 x2, .int .u32 x3]) (.int .i64 ((0 : Nat) : Int))).run Tryd.prog w = .ok (.int .u32 x0) w := by kernel_rfl
theorem idx4_1 (x0 x1 x2 x3 : Nat) (w : World) : (Instr.index 61 (.agg #[.int .u32 x0, .int .u32 x1, .int .u32 x2, .int .u32 x3]) (.int .i64 ((1 : Nat) : Int))).run Tryd.prog w = .ok (.int .u32 x1) w := by kernel_rfl
theorem idx4_2 (x0 x1 x2 x3 : Nat) (w : World) : (Instr.index 61 (.agg #[.int .u32 x0, .int .u32 x1, .int .u32 x2, .int .u32 x3]) (.int .i64 ((2 : Nat) : Int))).run Tryd.prog w = .ok (.int .u32 x2) w := by kernel_rfl
theorem idx4_3 (x0 x1 x2 x3 : Nat) (w : World) : (Instr.index 61 (.agg #[.int .u32 x0, .int .u32 x1, .int .u32 x2, .int .u32 x3]) (.int .i64 ((3 : Nat) : Int))).run Tryd.prog w = .ok (.int .u32 x3) w := by kernel_rfl
theorem idx4 {X x0 x1 x2 x3 : Nat} (h : HalvesN X x0 x1 x2 x3) (j : Nat) (hj : j < 4) :
    ∀ w, (Instr.index 61 (.agg #[.int .u32 x0, .int .u32 x1, .int .u32 x2, .int .u32 x3]) (.int .i64 j)).run Tryd.prog w = .ok (.int .u32 (dg X j : Nat)) w := by
  intro w
  obtain ⟨h0, h1, h2, h3, e⟩ := h
  have d0 : dg X 0 = x0 := by unfold dg; omega
  have d1 : dg X 1 = x1 := by unfold dg; omega
  have d2 : dg X 2 = x2 := by unfold dg; omega
  have d3 : dg X 3 = x3 := by unfold dg; omega
  rcases (show j = 0 ∨ j = 1 ∨ j = 2 ∨ j = 3 by omega) with rfl | rfl | rfl | rfl
  · rw [d0]; exact idx4_0 _ _ _ _ _
  · rw [d1]; exact idx4_1 _ _ _ _ _
  · rw [d2]; exact idx4_2 _ _ _ _ _
  · rw [d3]; exact idx4_3 _ _ _ _ _
theorem sum32 (A B p k : Nat) (hA : A < 4294967296) (hB : B < 4294967296) (hp : p < 4294967296) (hk : k < 4294967296) :
    IntKind.u64.wrap (IntKind.u64.wrap (IntKind.u64.wrap (IntKind.u64.wrap (A : Int) * IntKind.u64.wrap (B : Int)) + IntKind.u64.wrap (p : Int)) + (k : Int)) = ((A * B + p + k : Nat) : Int) := by
  have h : A * B ≤ 4294967295 * 4294967295 := Nat.mul_le_mul (by omega) (by omega)
  have e1 : IntKind.u64.wrap (A : Int) = (A : Int) := by rw [IntKind.wrap_u64]; omega
  have e2 : IntKind.u64.wrap (B : Int) = (B : Int) := by rw [IntKind.wrap_u64]; omega
  have e3 : IntKind.u64.wrap (p : Int) = (p : Int) := by rw [IntKind.wrap_u64]; omega
  have e4 : (A : Int) * (B : Int) = ((A * B : Nat) : Int) := by rw [Int.natCast_mul]
  rw [e1, e2, e3, e4]
  generalize A * B = q at *
  simp only [IntKind.wrap_u64]
  omega
theorem u32_of {x : Nat} (h : x < 4294967296) : U32 (x : Int) := by unfold U32; omega
theorem map_set32 (l : List Nat) (i v : Nat) : ((l.map mk32).toArray.setIfInBounds i (mk32 v)) = ((l.set i v).map mk32).toArray := by
  simp [List.map_set]
theorem isWords {l : List Nat} (h : l.length = 8) : ∃ p0 p1 p2 p3 p4 p5 p6 p7, l = [p0, p1, p2, p3, p4, p5, p6, p7] := by
  match l, h with
  | [p0, p1, p2, p3, p4, p5, p6, p7], _ => exact ⟨_, _, _, _, _, _, _, _, rfl⟩
def MulR (a0 a1 b0 b1 x y z u : Int) : Prop := U64 x ∧ U64 y ∧ U64 z ∧ U64 u ∧ v4 x y z u = v2 a0 a1 * v2 b0 b1
theorem val32_8 (p0 p1 p2 p3 p4 p5 p6 p7 : Nat) : val32 [p0, p1, p2, p3, p4, p5, p6, p7] = p0 + p1 * 4294967296 + (p2 + p3 * 4294967296) * 18446744073709551616 + (p4 + p5 * 4294967296) * 340282366920938463463374607431768211456 + (p6 + p7 * 4294967296) * 6277101735386680763835789423207666416102355444464034512896 := by
  simp only [val32]
  omega
theorem v4_words {x y z u : Int} {p0 p1 p2 p3 p4 p5 p6 p7 : Nat} (hw : WordsR p0 p1 p2 p3 p4 p5 p6 p7 x y z u) : v4 x y z u = p0 + p1 * 4294967296 + (p2 + p3 * 4294967296) * 18446744073709551616 + (p4 + p5 * 4294967296) * 340282366920938463463374607431768211456 + (p6 + p7 * 4294967296) * 6277101735386680763835789423207666416102355444464034512896 := by
  obtain ⟨-, -, -, -, h0, h1, h2, h3⟩ := hw
  have e0 : x.toNat = p0 + p1 * 4294967296 := by omega
  have e1 : y.toNat = p2 + p3 * 4294967296 := by omega
  have e2 : z.toNat = p4 + p5 * 4294967296 := by omega
  have e3 : u.toNat = p6 + p7 * 4294967296 := by omega
  unfold v4 v2
  rw [e0, e1, e2, e3]
  clear h0 h1 h2 h3 e0 e1 e2 e3
  omega
theorem mulR_of {a0 a1 b0 b1 x y z u : Int} {p0 p1 p2 p3 p4 p5 p6 p7 : Nat} (h : val32 [p0, p1, p2, p3, p4, p5, p6, p7] = v2 a0 a1 * v2 b0 b1) (hw : WordsR p0 p1 p2 p3 p4 p5 p6 p7 x y z u) : MulR a0 a1 b0 b1 x y z u := by
  have e := v4_words hw
  rw [← val32_8] at e
  exact ⟨hw.1, hw.2.1, hw.2.2.1, hw.2.2.2.1, e.trans h⟩
theorem bel_alloc {W w : World} (h : Below W.heap.size W w) (o : Obj) : Below W.heap.size W (w.alloc o) := h.alloc h.size o
theorem Blk.new_at {w : World} {g : Nat} {t : TypeId} {cs : Array Value} (h : g = w.heap.size) : Blk (w.alloc (.cells cs t)) g t cs := by subst h; exact Blk.new w t cs

set_option maxHeartbeats 1600000 in
theorem mul_c (a0 a1 b0 b1 : Int) (w : World) (ha0 : U64 a0) (ha1 : U64 a1) (hb0 : U64 b0) (hb1 : U64 b1) :
    Calls Tryd.prog 17 #[.agg #[.int .u64 a0, .int .u64 a1], .agg #[.int .u64 b0, .int .u64 b1]] w (Ret w (IsAgg4 (MulR a0 a1 b0 b1))) := by
  go_enter Tryd.func17, Tryd.ntmps17
  go_upto_region 1 with fail
  go_cut [5, 6] (fun s5 s6 wx => MulCut a0 a1 b0 b1 (((w.alloc (.cells #[.int .u64 a0, .int .u64 a1] 25)).alloc (.cells #[.int .u64 b0, .int .u64 b1] 25)).alloc (.cells #[.int .u64 0, .int .u64 0, .int .u64 0, .int .u64 0] 44)) s5 s6 wx)
  case first =>
    go_region_held3 (fun w' => w'.cell? ⟨w.heap.size, 0, none⟩ = some (.int .u64 a0) ∧ w'.cell? ⟨w.heap.size, 1, none⟩ = some (.int .u64 a1) ∧ w'.cell? ⟨w.heap.size + 1, 0, none⟩ = some (.int .u64 b0) ∧ w'.cell? ⟨w.heap.size + 1, 1, none⟩ = some (.int .u64 b1)) (simp [go_sem]) (first | (go_at_call 30; refine (halves_x _ _ _ (by assumption) (by assumption)).mono ?_; rintro e wx ⟨_, _, _, _, hh, rfl, rfl⟩))
    all_goals
      go_wp2_with fail
      go_meet
      case rel =>
        refine ⟨_, _, _, _, _, _, _, _, _, _, rfl, rfl, ‹HalvesW a0 a1 _ _ _ _›, ‹HalvesW b0 b1 _ _ _ _›, ?_, ?_, ?_⟩
        · repeat (first | ((with_reducible refine Blk.new_at ?_); (simp; done)) | (with_reducible refine Blk.drew ?_) | (with_reducible refine Blk.alloc ?_ _))
        · repeat (first | ((with_reducible refine Blk.new_at ?_); (simp; done)) | (with_reducible refine Blk.drew ?_) | (with_reducible refine Blk.alloc ?_ _))
        · repeat (first | (with_reducible exact Below.refl _ _) | (with_reducible refine Below.drew ?_) | (with_reducible refine bel_alloc ?_ _))
  case rest =>
    obtain ⟨g5, g6, h0, h1, h2, h3, k0, k1, k2, k3, rfl, rfl, HA, HB, B5, B6, hbw⟩ := hcut
    obtain ⟨x0, rfl⟩ := Int.eq_ofNat_of_zero_le HA.1.1
    obtain ⟨x1, rfl⟩ := Int.eq_ofNat_of_zero_le HA.2.1.1
    obtain ⟨x2, rfl⟩ := Int.eq_ofNat_of_zero_le HA.2.2.1.1
    obtain ⟨x3, rfl⟩ := Int.eq_ofNat_of_zero_le HA.2.2.2.1.1
    obtain ⟨y0, rfl⟩ := Int.eq_ofNat_of_zero_le HB.1.1
    obtain ⟨y1, rfl⟩ := Int.eq_ofNat_of_zero_le HB.2.1.1
    obtain ⟨y2, rfl⟩ := Int.eq_ofNat_of_zero_le HB.2.2.1.1
    obtain ⟨y3, rfl⟩ := Int.eq_ofNat_of_zero_le HB.2.2.2.1.1
    have HX := halvesN_of ha0 ha1 HA
    have HY := halvesN_of hb0 hb1 HB
    have l5 := B5.lt
    have l6 := B6.lt
    have c50 := B5.cell 0
    have c51 := B5.cell 1
    have c52 := B5.cell 2
    have c53 := B5.cell 3
    simp at c50 c51 c52 c53
    go_wp2_with fail
    go_loopw [19] (fun i wr => ∃ (n : Nat) (l : List Nat), n ≤ 4 ∧ i = .int .i64 n ∧ Blk wr wc.heap.size 63 (l.map mk32).toArray ∧ MulI (v2 a0 a1) (v2 b0 b1) n 0 0 l ∧ Below wc.heap.size wc wr) (fun i _ => 4 - (intOf i).toNat)
    case atStart => exact ⟨0, [0, 0, 0, 0, 0, 0, 0, 0], by omega, rfl, Blk.new _ _ _, mulI_zero _ _, (Below.refl _ _).alloc (Nat.le_refl _) _⟩
    case round =>
      obtain ⟨n, l, hn, rfl, HBk, HI, HBel⟩ := hrel
      have hx := idx4 HX n
      have hy := idx4 HY
      have HY' := Lib.hid hy
      clear hy
      by_cases hn4 : n < 4
      · have hxn := hx hn4
        have c60 := (B6.below HBel l6).cell 0
        have c61 := (B6.below HBel l6).cell 1
        have c62 := (B6.below HBel l6).cell 2
        have c63 := (B6.below HBel l6).cell 3
        simp at c60 c61 c62 c63
        clear hx c50 c51 c52 c53
        obtain ⟨wo, rfl⟩ : ∃ wo : World, wo = wr := ⟨_, rfl⟩
        go_wp2_with fail
        go_loopw [10, 24] (fun c j wr => ∃ (m k : Nat) (l : List Nat), m ≤ 4 ∧ j = .int .i64 m ∧ c = .int .u64 k ∧ Blk wr wc.heap.size 63 (l.map mk32).toArray ∧ MulI (v2 a0 a1) (v2 b0 b1) n m k l ∧ Below wc.heap.size wc wr) (fun _ j _ => 4 - (intOf j).toNat)
        case atStart => exact ⟨0, 0, l, by omega, rfl, rfl, HBk, HI, HBel⟩
        case round =>
          clear HBk HI HBel
          obtain ⟨m, k, l, hm, rfl, rfl, HBk, HI, HBel⟩ := hrel
          by_cases hm4 : m < 4
          · have hym := HY'.out m hm4
            have ck : wr.cell? ⟨wc.heap.size, n + m, none⟩ = some (.int .u32 (l.getD (n + m) 0 : Nat)) := by
              rw [HBk.cell]
              have : n + m < l.length := by rw [HI.1]; omega
              simp [mk32, this]
            have fk := HBk.frozen (n + m)
            obtain ⟨S, hS⟩ : ∃ S, S = dg (v2 a0 a1) n * dg (v2 b0 b1) m + l.getD (n + m) 0 + k := ⟨_, rfl⟩
            have ST := mulI_step hn4 hm4 HI hS
            have E1 := sum32 (dg (v2 a0 a1) n) (dg (v2 b0 b1) m) (l.getD (n + m) 0) k (dg_lt _ _) (dg_lt _ _) (getD_lt HI.2.1 _) HI.2.2.1
            rw [← hS, List.getD_eq_getElem?_getD] at E1
            have E2 : (S : Int) / 4294967296 = ((S / 4294967296 : Nat) : Int) := by omega
            have E3 : (S : Int) % 4294967296 = ((S % 4294967296 : Nat) : Int) := by omega
            have HE1 := Lib.hid E1
            have HE2 := Lib.hid E2
            have HE3 := Lib.hid E3
            clear E1 E2 E3 hS
            clear c60 c61 c62 c63 hxn
            go_wp2
            go_roundw
            case rel =>
              rw [HE1.out, HE2.out, HE3.out]
              exact ⟨m + 1, _, _, by omega, by go_num, rfl, (by have := HBk.set_ (n + m) (mk32 (S % 4294967296)); rw [map_set32] at this; exact this), ST.2, HBel.setCell (Nat.le_refl _) _⟩
            case measure => simp [intOf]; omega
          · obtain rfl : m = 4 := by omega
            have fk := HBk.frozen (n + 4)
            have ck : wr.cell? ⟨wc.heap.size, n + 4, none⟩ = some (.int .u32 (l.getD (n + 4) 0 : Nat)) := by
              rw [HBk.cell]
              have : n + 4 < l.length := by rw [HI.1]; omega
              simp [mk32, this]
            have NX := mulI_next hn4 (v2_lt hb0 hb1) HI
            have hk := HI.2.2.1
            clear c60 c61 c62 c63 hxn
            go_wp2
            go_roundw
            case rel =>
              exact ⟨n + 1, _, by omega, by go_num, (by have := HBk.set_ (n + 4) (mk32 k); rw [map_set32] at this; exact this), NX, HBel.setCell (Nat.le_refl _) _⟩
            case measure => simp [intOf]; omega
      · obtain rfl : n = 4 := by omega
        have V := mulI_end (v2_lt ha0 ha1) HI rfl
        obtain ⟨p0, p1, p2, p3, p4, p5, p6, p7, rfl⟩ := isWords HI.1
        have q0 := HBk.cell 0
        have q1 := HBk.cell 1
        have q2 := HBk.cell 2
        have q3 := HBk.cell 3
        have q4 := HBk.cell 4
        have q5 := HBk.cell 5
        have q6 := HBk.cell 6
        have q7 := HBk.cell 7
        simp [mk32] at q0 q1 q2 q3 q4 q5 q6 q7
        have hw : ∀ x ∈ [p0, p1, p2, p3, p4, p5, p6, p7], x < 4294967296 := HI.2.1
        have HV := Lib.hid V
        clear hx c50 c51 c52 c53 V
        go_wp2_with fail
        refine (words_c p0 p1 p2 p3 p4 p5 p6 p7 _ (u32_of (hw _ (by simp))) (u32_of (hw _ (by simp))) (u32_of (hw _ (by simp))) (u32_of (hw _ (by simp))) (u32_of (hw _ (by simp))) (u32_of (hw _ (by simp))) (u32_of (hw _ (by simp))) (u32_of (hw _ (by simp)))).mono ?_
        rintro e w2 ⟨_, ⟨r0, r1, r2, r3, hr, rfl⟩, rfl, hb2⟩
        have H := mulR_of HV.out hr
        have z1 := hbw.size
        have z2 := HBel.size
        have BR := ((((Blk.new_at (w := (w.alloc (.cells #[.int .u64 a0, .int .u64 a1] 25)).alloc (.cells #[.int .u64 b0, .int .u64 b1] 25)) (g := w.heap.size + 1 + 1) (t := 44) (cs := #[.int .u64 0, .int .u64 0, .int .u64 0, .int .u64 0]) (by simp)).below hbw (by simp)).below HBel (by simp at z1; omega)).below hb2 (by simp at z1; omega))
        have t0 := BR.cell 0
        have t1 := BR.cell 1
        have t2 := BR.cell 2
        have t3 := BR.cell 3
        have f0 := BR.frozen 0
        have f1 := BR.frozen 1
        have f2 := BR.frozen 2
        have f3 := BR.frozen 3
        simp at t0 t1 t2 t3
        have hz := below3 hbw
        have hfin := (hz.trans (HBel.mono hz.size)).trans (hb2.mono (Nat.le_trans hz.size z2))
        clear q0 q1 q2 q3 q4 q5 q6 q7 BR z1 z2
        go_wp2
        refine bodyPost_ret (v := .agg #[.int .u64 r0, .int .u64 r1, .int .u64 r2, .int .u64 r3]) (by simp [results, Tryd.results17, go_sem, t0, t1, t2, t3]) rfl ⟨_, ⟨_, _, _, _, H, rfl⟩, rfl, ?_⟩
        have hle : w.heap.size ≤ w.heap.size + 1 + 1 := by omega
        exact (((hfin.setCell hle _).setCell hle _).setCell hle _).setCell hle _
end Go.Proofs.YtkaflkofffgndaaDoor

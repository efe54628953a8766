/- Package pyxref1: Make, Of. -/
import Derived.Test.YtipjeepcgdmomaaDoorDecF
import Derived.Test.YtipjeepcgdmomaaDoorRefM
namespace Go.Proofs.YtipjeepcgdmomaaDoor
open Go.RowKit

theorem w2_fin {N : Nat} {s0 s1 : Int} {p : Bool} (h : W2R N s0 s1 p) (hN : N < 1000000000000000000000000000000) : U64 s0 ∧ U64 s1 ∧ v2 s0 s1 = N := by
  rcases h with ⟨_, _, a, b, e⟩ | ⟨hl, _⟩
  · exact ⟨a, b, e⟩
  · omega
theorem make_is {neg : Bool} {N n : Nat} {s0 s1 : Int} {ds : List Nat} {w : World} {A : Option Addr} {cap : Nat} (h : DigC w A n cap ds) (e : dv ds = N) (hn : Norm ds) (h0 : U64 s0) (h1 : U64 s1) (ev : v2 s0 s1 = N) : DecIs (neg && decide (0 < n)) s0 s1 (zOf neg N) := by
  refine ⟨?_, h0, h1, by rw [zOf_abs]; exact ev⟩
  rw [zOf_neg]
  congr 1
  rcases Nat.eq_zero_or_pos n with h2 | h2
  · have : N = 0 := by
      have h3 := h.1
      rw [h2] at h3
      rw [← e, List.eq_nil_of_length_eq_zero h3]
      rfl
    simp [h2, this]
  · have : N ≠ 0 := by
      intro hN
      have := lenA (k := 0) h hn (by rw [e, hN]; decide)
      omega
    simp [this]; omega

set_option maxRecDepth 100000 in
set_option maxHeartbeats 1600000 in
theorem make_c (neg : Bool) (A : Option Addr) (n cap : Nat) (ds : List Nat) (N : Nat) (s : Int) (w : World) (h : DigC w A n cap ds) (hn : Norm ds) (e : dv ds = N) (hN : N < 1000000000000000000000000000000) (h0 : 0 ≤ s) (h9 : s ≤ 9) :
    Calls Tryd.prog 11 #[.bool neg, .slice A n cap, .int .i64 s] w (Ret w (IsDecE (zOf neg N) s 0)) := by
  have l30 : n ≤ 30 := lenA h hn (by rw [e]; exact hN)
  have W : HB w [(w.heap.size, 26, #[.bool false, .int .u64 0, .int .u64 0, .int .i64 0])] (w.alloc (.cells #[.bool false, .int .u64 0, .int .u64 0, .int .i64 0] 26)) := (HB.start (Below.refl _ w)).push #[.bool false, .int .u64 0, .int .u64 0, .int .i64 0] 26
  have D := Lib.hid (h.alloc (.cells #[.bool false, .int .u64 0, .int .u64 0, .int .i64 0] 26))
  have HN := Lib.hid hn
  have HE := Lib.hid e
  have HNN := Lib.hid hN
  have HH := Lib.hid h
  clear h hn e hN
  have g1 : decide (s < 0) = false := by simp; omega
  have g2 : decide (9 < s) = false := by simp; omega
  have g3 : decide ((30 : Int) < (n : Int)) = false := by simp; omega
  cases neg
  · go_enter Tryd.func11, Tryd.ntmps11
    go_wp2_with fail
    refine (words2_c A n cap ds _ D.out (by omega)).mono ?_
    rintro e w1 ⟨_, ⟨s0, s1, p, HW, rfl⟩, rfl, hb⟩
    replace W := W.below hb
    clear hb
    rw [HE.out] at HW
    obtain ⟨hs0, hs1, es⟩ := w2_fin HW HNN.out
    have HD := make_is (neg := false) HH.out HE.out HN.out hs0 hs1 es
    have HDh := Lib.hid HD
    clear HD HW es
    obtain ⟨lq, q0, q1, q2, q3⟩ := HB.dec (t := 26) (g := w.heap.size) (a := .bool false) (b := .int .u64 0) (c := .int .u64 0) (d := .int .i64 0) W (by simp)
    have Bz := HB.blk (g := w.heap.size) (t := 26) (cs := #[.bool false, .int .u64 0, .int .u64 0, .int .i64 0]) W (by simp)
    have fz0 := Bz.frozen 0
    have fz1 := Bz.frozen 1
    have fz2 := Bz.frozen 2
    have fz3 := Bz.frozen 3
    clear Bz
    have HB1 := Lib.hid W.1
    clear W
    go_wp2
    exact bodyPost_ret (v := .tuple #[.agg #[.bool false, .int .u64 s0, .int .u64 s1, .int .i64 s], .int .i64 0]) (by simp [results, Tryd.results11, go_sem, q0, q1, q2, q3, lq]) rfl ⟨_, ⟨_, _, _, HDh.out, rfl⟩, rfl, bel_alloc (bel4 HB1.out (Nat.le_refl _)) _⟩
  · rcases Nat.eq_zero_or_pos n with hz | hz
    · have hzH := Lib.hid hz
      have g4 : decide ((0 : Int) < (n : Int)) = false := by simp; omega
      clear hz
      go_enter Tryd.func11, Tryd.ntmps11
      go_wp2_with fail
      refine (words2_c A n cap ds _ D.out (by omega)).mono ?_
      rintro e w1 ⟨_, ⟨s0, s1, p, HW, rfl⟩, rfl, hb⟩
      replace W := W.below hb
      clear hb
      rw [HE.out] at HW
      obtain ⟨hs0, hs1, es⟩ := w2_fin HW HNN.out
      have HD := make_is (neg := true) HH.out HE.out HN.out hs0 hs1 es
      rw [show decide (0 < n) = false by have := hzH.out; simp; omega] at HD
      have HDh := Lib.hid HD
      clear HD HW es
      obtain ⟨lq, q0, q1, q2, q3⟩ := HB.dec (t := 26) (g := w.heap.size) (a := .bool false) (b := .int .u64 0) (c := .int .u64 0) (d := .int .i64 0) W (by simp)
      have Bz := HB.blk (g := w.heap.size) (t := 26) (cs := #[.bool false, .int .u64 0, .int .u64 0, .int .i64 0]) W (by simp)
      have fz0 := Bz.frozen 0
      have fz1 := Bz.frozen 1
      have fz2 := Bz.frozen 2
      have fz3 := Bz.frozen 3
      clear Bz
      have HB1 := Lib.hid W.1
      clear W
      go_wp2
      exact bodyPost_ret (v := .tuple #[.agg #[.bool false, .int .u64 s0, .int .u64 s1, .int .i64 s], .int .i64 0]) (by simp [results, Tryd.results11, go_sem, q0, q1, q2, q3, lq, hzH.out]) rfl ⟨_, ⟨_, _, _, HDh.out, rfl⟩, rfl, bel_alloc (bel4 HB1.out (Nat.le_refl _)) _⟩
    · have hzH := Lib.hid hz
      have g4 : (0 : Int) < (n : Int) := by omega
      clear hz
      go_enter Tryd.func11, Tryd.ntmps11
      go_wp2_with fail
      refine (words2_c A n cap ds _ D.out (by omega)).mono ?_
      rintro e w1 ⟨_, ⟨s0, s1, p, HW, rfl⟩, rfl, hb⟩
      replace W := W.below hb
      clear hb
      rw [HE.out] at HW
      obtain ⟨hs0, hs1, es⟩ := w2_fin HW HNN.out
      have HD := make_is (neg := true) HH.out HE.out HN.out hs0 hs1 es
      rw [show decide (0 < n) = true by have := hzH.out; simp; omega] at HD
      have HDh := Lib.hid HD
      clear HD HW es
      obtain ⟨lq, q0, q1, q2, q3⟩ := HB.dec (t := 26) (g := w.heap.size) (a := .bool false) (b := .int .u64 0) (c := .int .u64 0) (d := .int .i64 0) W (by simp)
      have Bz := HB.blk (g := w.heap.size) (t := 26) (cs := #[.bool false, .int .u64 0, .int .u64 0, .int .i64 0]) W (by simp)
      have fz0 := Bz.frozen 0
      have fz1 := Bz.frozen 1
      have fz2 := Bz.frozen 2
      have fz3 := Bz.frozen 3
      clear Bz
      have HB1 := Lib.hid W.1
      clear W
      go_wp2
      exact bodyPost_ret (v := .tuple #[.agg #[.bool true, .int .u64 s0, .int .u64 s1, .int .i64 s], .int .i64 0]) (by simp [results, Tryd.results11, go_sem, q0, q1, q2, q3, lq, hzH.out]) rfl ⟨_, ⟨_, _, _, HDh.out, rfl⟩, rfl, bel_alloc (bel4 HB1.out (Nat.le_refl _)) _⟩

set_option maxRecDepth 100000 in
set_option maxHeartbeats 1600000 in
theorem refOf_c (z s : Int) (w : World) (hlo : -9223372036854775808 ≤ z) (hhi : z ≤ 9223372036854775807) (h0 : 0 ≤ s) (h9 : s ≤ 9) :
    Calls Tryd.prog 5 #[.int .i64 z, .int .i64 s] w (Ret w (IsDec z s)) := by
  have W : HB w [(w.heap.size, 26, #[.bool false, .int .u64 0, .int .u64 0, .int .i64 0])] (w.alloc (.cells #[.bool false, .int .u64 0, .int .u64 0, .int .i64 0] 26)) := (HB.start (Below.refl _ w)).push #[.bool false, .int .u64 0, .int .u64 0, .int .i64 0] 26
  obtain ⟨N, hN⟩ : ∃ N, z.natAbs = N := ⟨_, rfl⟩
  have u : U64 (N : Int) := by unfold U64; omega
  have hN30 : N < 1000000000000000000000000000000 := by omega
  have HN30 := Lib.hid hN30
  clear hN30
  have ew : withinI s 0 9 = s := by unfold withinI; omega
  have EW := Lib.hid ew
  clear ew
  by_cases hz : z < 0
  · have ez : zOf true N = z := by unfold zOf; simp; omega
    have e1 : IntKind.u64.wrap z = z + 18446744073709551616 := by rw [IntKind.wrap_u64]; omega
    have e2 : IntKind.u64.wrap (-(z + 18446744073709551616)) = (N : Int) := by rw [IntKind.wrap_u64]; omega
    have EZ := Lib.hid ez
    clear ez hN
    go_enter Tryd.func5, Tryd.ntmps5
    go_wp2_with fail
    refine (word_c' N _ (by unfold U64 at u; omega)).mono ?_
    rintro e w1 ⟨A, n, k, ds, ⟨D, HN, E⟩, rfl, hb⟩
    replace W := W.below hb
    clear hb
    have EH := Lib.hid E
    clear E
    go_wp2_with fail
    refine (within_c s 0 9 _).mono ?_
    rintro e w2 ⟨rfl, rfl⟩
    rw [EW.out]
    go_wp2_with fail
    refine (make_c true A n k ds N s _ D HN EH.out HN30.out h0 h9).mono ?_
    rintro e w3 ⟨_, ⟨m, c, d, HD, rfl⟩, rfl, hb⟩
    replace W := W.below hb
    clear hb D
    rw [EZ.out] at HD
    have HDh := Lib.hid HD
    clear HD
    obtain ⟨lq, q0, q1, q2, q3⟩ := HB.dec (t := 26) (g := w.heap.size) (a := .bool false) (b := .int .u64 0) (c := .int .u64 0) (d := .int .i64 0) W (by simp)
    have Bz := HB.blk (g := w.heap.size) (t := 26) (cs := #[.bool false, .int .u64 0, .int .u64 0, .int .i64 0]) W (by simp)
    have fz0 := Bz.frozen 0
    have fz1 := Bz.frozen 1
    have fz2 := Bz.frozen 2
    have fz3 := Bz.frozen 3
    clear Bz
    have HB1 := Lib.hid W.1
    clear W
    go_wp2
    exact bodyPost_ret (v := .agg #[.bool m, .int .u64 c, .int .u64 d, .int .i64 s]) (by simp [results, Tryd.results5, go_sem, q0, q1, q2, q3, lq]) rfl ⟨_, ⟨_, _, _, HDh.out, rfl⟩, rfl, bel_alloc (bel4 HB1.out (Nat.le_refl _)) _⟩
  · have ez : zOf false N = z := by unfold zOf; simp; omega
    have e1 : IntKind.u64.wrap z = (N : Int) := by rw [IntKind.wrap_u64]; omega
    have g1 : decide (z < 0) = false := by simp; omega
    have EZ := Lib.hid ez
    clear ez hN
    go_enter Tryd.func5, Tryd.ntmps5
    go_wp2_with fail
    refine (word_c' N _ (by unfold U64 at u; omega)).mono ?_
    rintro e w1 ⟨A, n, k, ds, ⟨D, HN, E⟩, rfl, hb⟩
    replace W := W.below hb
    clear hb
    have EH := Lib.hid E
    clear E
    go_wp2_with fail
    refine (within_c s 0 9 _).mono ?_
    rintro e w2 ⟨rfl, rfl⟩
    rw [EW.out]
    go_wp2_with fail
    refine (make_c false A n k ds N s _ D HN EH.out HN30.out h0 h9).mono ?_
    rintro e w3 ⟨_, ⟨m, c, d, HD, rfl⟩, rfl, hb⟩
    replace W := W.below hb
    clear hb D
    rw [EZ.out] at HD
    have HDh := Lib.hid HD
    clear HD
    obtain ⟨lq, q0, q1, q2, q3⟩ := HB.dec (t := 26) (g := w.heap.size) (a := .bool false) (b := .int .u64 0) (c := .int .u64 0) (d := .int .i64 0) W (by simp)
    have Bz := HB.blk (g := w.heap.size) (t := 26) (cs := #[.bool false, .int .u64 0, .int .u64 0, .int .i64 0]) W (by simp)
    have fz0 := Bz.frozen 0
    have fz1 := Bz.frozen 1
    have fz2 := Bz.frozen 2
    have fz3 := Bz.frozen 3
    clear Bz
    have HB1 := Lib.hid W.1
    clear W
    go_wp2
    exact bodyPost_ret (v := .agg #[.bool m, .int .u64 c, .int .u64 d, .int .i64 s]) (by simp [results, Tryd.results5, go_sem, q0, q1, q2, q3, lq]) rfl ⟨_, ⟨_, _, _, HDh.out, rfl⟩, rfl, bel_alloc (bel4 HB1.out (Nat.le_refl _)) _⟩

end Go.Proofs.YtipjeepcgdmomaaDoor

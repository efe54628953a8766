/- Package dec: Read where it answers OK. -/
import Derived.Test.YtjpimiagcijejaaGreatDoorTextE
namespace Go.Proofs.YtjpimiagcijejaaGreatDoor
open Go.RowKit
/-- The text: a minus or none, the whole digits, a point and its digits or none. -/
def tailL (W P : List UInt8) : List UInt8 := if P = [] then W else W ++ 46 :: P
def readL (n : Bool) (W P : List UInt8) : List UInt8 := if n then 45 :: tailL W P else tailL W P
theorem dig_ne {c : UInt8} (h : isDig c = true) : c ≠ 45 ∧ c ≠ 46 := by
  unfold isDig at h
  simp at h
  constructor <;> (rintro rfl; simp at h)
theorem index_dot : ∀ (W R : List UInt8), W.all isDig = true → Lib.index (W ++ 46 :: R) [46] = W.length
  | [], R, _ => by simp [Lib.index, List.isPrefixOf]
  | c :: W, R, h => by
    simp only [List.all_cons, Bool.and_eq_true] at h
    have ih := index_dot W R h.2
    have hc := (dig_ne h.1).2
    simp [Lib.index, List.isPrefixOf, ih, Ne.symm hc]
theorem index_none : ∀ (W : List UInt8), W.all isDig = true → Lib.index W [46] = -1
  | [], _ => by simp [Lib.index]
  | c :: W, h => by
    simp only [List.all_cons, Bool.and_eq_true] at h
    have ih := index_none W h.2
    have hc := (dig_ne h.1).2
    simp [Lib.index, List.isPrefixOf, ih, Ne.symm hc]
theorem cut_tail {W P : List UInt8} (hW : W.all isDig = true) : Lib.cut (tailL W P) [46] = (W, P, !P.isEmpty) := by
  unfold tailL Lib.cut
  by_cases hP : P = []
  · subst hP
    simp [index_none W hW]
  · rw [if_neg hP, index_dot W P hW]
    simp [hP, Int.natCast_nonneg]
theorem pre_read {n : Bool} {W P : List UInt8} (hW : W.all isDig = true) (hl : 1 ≤ W.length) : Lib.hasPrefix (readL n W P) [45] = n ∧ Lib.trimPrefix (readL n W P) [45] = tailL W P := by
  have h : Lib.hasPrefix (readL n W P) [45] = n := by
    cases n
    · cases W with
      | nil => simp at hl
      | cons c W =>
        simp only [List.all_cons, Bool.and_eq_true] at hW
        have hc := (dig_ne hW.1).1
        unfold Lib.hasPrefix readL tailL
        by_cases hP : P = [] <;> simp [hP, List.isPrefixOf, Ne.symm hc]
    · simp [Lib.hasPrefix, readL, List.isPrefixOf]
  refine ⟨h, ?_⟩
  unfold Lib.trimPrefix
  rw [h]
  cases n <;> simp [readL]
theorem tail_len {W P : List UInt8} (hl : W.length ≤ 30) (hp : P.length ≤ 9) : (tailL W P).length ≤ 40 := by
  unfold tailL; split
  · omega
  · simp; omega
theorem cell_keep {w wx : World} {a : Addr} {v : Value} (hb : Below w.heap.size w wx) (h : w.cell? a = some v) : wx.cell? a = some v := (hb.cell (World.block_lt_of_cell? _ _ h)).trans h
theorem cutpre_c {n : Bool} {W P : List UInt8} (hW : W.all isDig = true) (hl : 1 ≤ W.length) (w : World) :
    Calls Tryz.prog 45 #[.string ⟨(readL n W P).toArray⟩, .string ⟨#[45]⟩] w fun e w' => e = .returned (.tuple #[.string ⟨(tailL W P).toArray⟩, .bool n]) ∧ w = w' := by
  obtain ⟨e1, e2⟩ := pre_read (n := n) (P := P) hW hl
  refine (Tryz.strings_CutPrefix _ _ _).mono ?_
  rintro e w1 ⟨rfl, rfl⟩
  refine ⟨?_, rfl⟩
  show Ending.returned (.tuple #[.string ⟨(Lib.trimPrefix (readL n W P) [45]).toArray⟩, .bool (Lib.hasPrefix (readL n W P) [45])]) = _
  rw [e1, e2]
theorem cut_c {W P : List UInt8} (hW : W.all isDig = true) (tl : (tailL W P).length ≤ 100) (m : Int) (w : World) (hm : w.cell? ⟨0, 0, none⟩ = some (.int .i64 m)) :
    Calls Tryz.prog 46 #[.string ⟨(tailL W P).toArray⟩, .string ⟨#[46]⟩] w fun e w' => e = .returned (.tuple #[.string ⟨W.toArray⟩, .string ⟨P.toArray⟩, .bool (!P.isEmpty)]) ∧ ∃ k, w' = w.drewN k := by
  refine (Tryz.strings_Cut _ _ m _ (by show (tailL W P).length < _; omega) hm).mono ?_
  rintro e w1 ⟨rfl, k, rfl⟩
  refine ⟨?_, k, rfl⟩
  show Ending.returned (.tuple #[.string ⟨(Lib.cut (tailL W P) [46]).1.toArray⟩, .string ⟨(Lib.cut (tailL W P) [46]).2.1.toArray⟩, .bool (Lib.cut (tailL W P) [46]).2.2]) = _
  rw [cut_tail hW]
theorem number_app (W P : List UInt8) (w : World) (hb : W.length + P.length ≤ 1000) (hW : W.all isDig = true) (hP : P.all isDig = true) (hN : numL (W ++ P) < 1000000000000000000000000000000) :
    Calls Tryz.prog 48 #[.string (⟨W.toArray⟩ ++ ⟨P.toArray⟩)] w (Ret w (IsUp (numL (W ++ P)))) := by
  rw [bytes_app]
  exact number_ok _ w (by simp; omega) (by rw [List.all_append, hW, hP]; rfl) hN
set_option maxRecDepth 100000 in
set_option maxHeartbeats 1600000 in
theorem read_c (n : Bool) (W P : List UInt8) (m : Int) (w : World) (hW : 1 ≤ W.length) (hW2 : W.length ≤ 30) (hWd : W.all isDig = true) (hP : P.length ≤ 9) (hPd : P.all isDig = true) (hN : numL (W ++ P) < 1000000000000000000000000000000) (hz : n = true → numL (W ++ P) ≠ 0) (hm : w.cell? ⟨0, 0, none⟩ = some (.int .i64 m)) :
    Calls Tryz.prog 16 #[.string ⟨(readL n W P).toArray⟩] w (Ret w (IsDecE (zOf n (numL (W ++ P))) P.length 0)) := by
  have hle : w.heap.size ≤ w.heap.size := Nat.le_refl _
  have tl := tail_len hW2 hP
  have HN := Lib.hid (And.intro hN hz)
  have HW := Lib.hid (And.intro hWd hPd)
  have V : HB w [(w.heap.size, 25, #[.bool false, .int .u64 0, .int .u64 0, .int .i64 0])] (w.alloc (.cells #[.bool false, .int .u64 0, .int .u64 0, .int .i64 0] 25)) := (HB.start (Below.refl _ w)).push _ _
  clear hN hz hWd hPd
  go_enter Tryz.func16, Tryz.ntmps16
  go_wp2_with fail
  refine (cutpre_c HW.out.1 hW _).mono ?_
  rintro e w1 ⟨rfl, rfl⟩
  go_wp2_with fail
  refine (cut_c HW.out.1 (by omega) m _ ?_).mono ?_
  · exact cell_keep V.bel hm
  rintro e w1 ⟨rfl, k, rfl⟩
  have hWi : (W.length : Int) ≤ 30 := by omega
  have hPi : (P.length : Int) ≤ 9 := by omega
  go_wp2_with fail
  refine (digits_yes W 30 _ hW hWi (by omega) HW.out.1).mono ?_
  rintro e w1 ⟨rfl, rfl⟩
  have hlen : ¬ 9223372036854775807 < W.length + P.length := by omega
  generalize hpe : P.isEmpty = b
  cases b
  · have hP1 : 1 ≤ P.length := by cases P with
      | nil => simp at hpe
      | cons _ _ => simp
    go_wp2_with fail
    refine (digits_yes P 9 _ hP1 hPi (by omega) HW.out.2).mono ?_
    rintro e w1 ⟨rfl, rfl⟩
    go_wp2_with fail
    refine (number_app W P _ (by omega) HW.out.1 HW.out.2 HN.out.1).mono ?_
    rintro e w1 ⟨_, ⟨x, y, HX, rfl⟩, rfl, hb1⟩
    have V1 := V.below (Below.trans (bel_drewN (Below.refl _ _) k) hb1)
    obtain ⟨hx, hy, ex⟩ := HX
    have EX := Lib.hid ex
    have HXL := Lib.hid (ex.symm ▸ HN.out.1)
    clear ex
    have V1c := V1.alloc (.cells #[.int .u64 x, .int .u64 y] 23)
    cases n
    · go_wp2_with fail
      go_quiet (fail)
      have V2 := V1c.below (bel_drewN (Below.refl _ _) nq)
      clear V1c
      go_wp2_with fail
      refine (checked_d false x y P.length _ hx hy HXL.out (by omega) hPi).mono ?_
      rintro e w2 ⟨_, ⟨m', a', b', HD, rfl⟩, rfl, hb⟩
      rw [EX.out] at HD
      have V3 := V2.below hb
      obtain ⟨lq, q0, q1, q2, q3⟩ := HB.dec (t := 25) (g := w.heap.size) (a := .bool false) (b := .int .u64 0) (c := .int .u64 0) (d := .int .i64 0) V3 (by simp)
      have Bz := HB.blk (g := w.heap.size) (t := 25) (cs := #[.bool false, .int .u64 0, .int .u64 0, .int .i64 0]) V3 (by simp)
      have fz0 := Bz.frozen 0
      have fz1 := Bz.frozen 1
      have fz2 := Bz.frozen 2
      have fz3 := Bz.frozen 3
      have HB1 := Lib.hid V3.1
      have HDh := Lib.hid HD
      clear Bz V3 V2 HD V V1 hb hb1
      go_wp2
      exact bodyPost_ret (v := .tuple #[.agg #[.bool m', .int .u64 a', .int .u64 b', .int .i64 P.length], .int .i64 0]) (by simp [results, Tryz.results16, go_sem, q0, q1, q2, q3]) rfl ⟨_, ⟨_, _, _, HDh.out, rfl⟩, rfl, bel4 HB1.out hle⟩
    · have hβ : eqW2 x y 0 0 = false := by
        rw [eqW2_0 hx hy, EX.out]
        simpa using HN.out.2 rfl
      go_wp2_with fail
      go_region_held3 (fun w' => w'.cell? ⟨w1.heap.size, 0, none⟩ = some (.int .u64 x) ∧ w'.cell? ⟨w1.heap.size, 1, none⟩ = some (.int .u64 y)) (simp [go_sem]) (first | (go_at_call 49; refine (of_x _ _).mono ?_; rintro e wx ⟨rfl, rfl⟩))
      have V2 := (V1c.alloc (.cells #[.int .u64 0, .int .u64 0] 23)).drew
      clear V1c
      go_wp2_with fail
      refine (checked_d true x y P.length _ hx hy HXL.out (by omega) hPi).mono ?_
      rintro e w2 ⟨_, ⟨m', a', b', HD, rfl⟩, rfl, hb⟩
      rw [EX.out] at HD
      have V3 := V2.below hb
      obtain ⟨lq, q0, q1, q2, q3⟩ := HB.dec (t := 25) (g := w.heap.size) (a := .bool false) (b := .int .u64 0) (c := .int .u64 0) (d := .int .i64 0) V3 (by simp)
      have Bz := HB.blk (g := w.heap.size) (t := 25) (cs := #[.bool false, .int .u64 0, .int .u64 0, .int .i64 0]) V3 (by simp)
      have fz0 := Bz.frozen 0
      have fz1 := Bz.frozen 1
      have fz2 := Bz.frozen 2
      have fz3 := Bz.frozen 3
      have HB1 := Lib.hid V3.1
      have HDh := Lib.hid HD
      clear Bz V3 V2 HD V V1 hb hb1
      go_wp2
      exact bodyPost_ret (v := .tuple #[.agg #[.bool m', .int .u64 a', .int .u64 b', .int .i64 P.length], .int .i64 0]) (by simp [results, Tryz.results16, go_sem, q0, q1, q2, q3]) rfl ⟨_, ⟨_, _, _, HDh.out, rfl⟩, rfl, bel4 HB1.out hle⟩
  · go_wp2_with fail
    refine (number_app W P _ (by omega) HW.out.1 HW.out.2 HN.out.1).mono ?_
    rintro e w1 ⟨_, ⟨x, y, HX, rfl⟩, rfl, hb1⟩
    have V1 := V.below (Below.trans (bel_drewN (Below.refl _ _) k) hb1)
    obtain ⟨hx, hy, ex⟩ := HX
    have EX := Lib.hid ex
    have HXL := Lib.hid (ex.symm ▸ HN.out.1)
    clear ex
    have V1c := V1.alloc (.cells #[.int .u64 x, .int .u64 y] 23)
    cases n
    · go_wp2_with fail
      go_quiet (fail)
      have V2 := V1c.below (bel_drewN (Below.refl _ _) nq)
      clear V1c
      go_wp2_with fail
      refine (checked_d false x y P.length _ hx hy HXL.out (by omega) hPi).mono ?_
      rintro e w2 ⟨_, ⟨m', a', b', HD, rfl⟩, rfl, hb⟩
      rw [EX.out] at HD
      have V3 := V2.below hb
      obtain ⟨lq, q0, q1, q2, q3⟩ := HB.dec (t := 25) (g := w.heap.size) (a := .bool false) (b := .int .u64 0) (c := .int .u64 0) (d := .int .i64 0) V3 (by simp)
      have Bz := HB.blk (g := w.heap.size) (t := 25) (cs := #[.bool false, .int .u64 0, .int .u64 0, .int .i64 0]) V3 (by simp)
      have fz0 := Bz.frozen 0
      have fz1 := Bz.frozen 1
      have fz2 := Bz.frozen 2
      have fz3 := Bz.frozen 3
      have HB1 := Lib.hid V3.1
      have HDh := Lib.hid HD
      clear Bz V3 V2 HD V V1 hb hb1
      go_wp2
      exact bodyPost_ret (v := .tuple #[.agg #[.bool m', .int .u64 a', .int .u64 b', .int .i64 P.length], .int .i64 0]) (by simp [results, Tryz.results16, go_sem, q0, q1, q2, q3]) rfl ⟨_, ⟨_, _, _, HDh.out, rfl⟩, rfl, bel4 HB1.out hle⟩
    · have hβ : eqW2 x y 0 0 = false := by
        rw [eqW2_0 hx hy, EX.out]
        simpa using HN.out.2 rfl
      go_wp2_with fail
      go_region_held3 (fun w' => w'.cell? ⟨w1.heap.size, 0, none⟩ = some (.int .u64 x) ∧ w'.cell? ⟨w1.heap.size, 1, none⟩ = some (.int .u64 y)) (simp [go_sem]) (first | (go_at_call 49; refine (of_x _ _).mono ?_; rintro e wx ⟨rfl, rfl⟩))
      have V2 := (V1c.alloc (.cells #[.int .u64 0, .int .u64 0] 23)).drew
      clear V1c
      go_wp2_with fail
      refine (checked_d true x y P.length _ hx hy HXL.out (by omega) hPi).mono ?_
      rintro e w2 ⟨_, ⟨m', a', b', HD, rfl⟩, rfl, hb⟩
      rw [EX.out] at HD
      have V3 := V2.below hb
      obtain ⟨lq, q0, q1, q2, q3⟩ := HB.dec (t := 25) (g := w.heap.size) (a := .bool false) (b := .int .u64 0) (c := .int .u64 0) (d := .int .i64 0) V3 (by simp)
      have Bz := HB.blk (g := w.heap.size) (t := 25) (cs := #[.bool false, .int .u64 0, .int .u64 0, .int .i64 0]) V3 (by simp)
      have fz0 := Bz.frozen 0
      have fz1 := Bz.frozen 1
      have fz2 := Bz.frozen 2
      have fz3 := Bz.frozen 3
      have HB1 := Lib.hid V3.1
      have HDh := Lib.hid HD
      clear Bz V3 V2 HD V V1 hb hb1
      go_wp2
      exact bodyPost_ret (v := .tuple #[.agg #[.bool m', .int .u64 a', .int .u64 b', .int .i64 P.length], .int .i64 0]) (by simp [results, Tryz.results16, go_sem, q0, q1, q2, q3]) rfl ⟨_, ⟨_, _, _, HDh.out, rfl⟩, rfl, bel4 HB1.out hle⟩
end Go.Proofs.YtjpimiagcijejaaGreatDoor

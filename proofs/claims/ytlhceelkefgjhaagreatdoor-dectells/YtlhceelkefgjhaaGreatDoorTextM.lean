/- Package dec: Print at right decimals. -/
/- Package dec: Read where it answers OK. -/
/- Package dec: what Print prints is what Read reads: the lists of bytes alone. -/
/- pyxlaw2: known. -/
/- Package dec: texts with too many digits are refused; what is not right has no text. -/
/- Package dec: digits and number at any text. -/
/- Package dec: Read, where it refuses. -/
/- Package dec: Read of a zero below 0. -/
import Derived.Test.YtlhceelkefgjhaaGreatDoorTextD
import Derived.IntWalk
namespace Go.Proofs.YtlhceelkefgjhaaGreatDoor
open Go.RowKit
theorem figL_ge (N : Nat) (m : Int) : m ≤ (figL N m).length := by
  unfold figL; rw [padL_length]; omega
theorem figL_le (N : Nat) (m : Int) (hN : N < 1000000000000000000000000000000) (hm : m ≤ 100) : (figL N m).length ≤ 200 := by
  have h1 : N / 1000000000000000 < 18446744073709551616 := by omega
  have h2 : N % 1000000000000000 < 18446744073709551616 := by omega
  have l1 : (Lib.decDigits (N / 1000000000000000)).length ≤ 20 := by rw [Lib.decDigits_length]; exact nDig_le _ h1
  have l2 : (Lib.decDigits (N % 1000000000000000)).length ≤ 20 := by rw [Lib.decDigits_length]; exact nDig_le _ h2
  have l3 := trimLeftB_le (Lib.decDigits (N / 1000000000000000) ++ padL (Lib.decDigits (N % 1000000000000000)) 15) 48
  rw [List.length_append, padL_length] at l3
  unfold figL
  rw [padL_length]
  omega
theorem ext_l (L : List UInt8) (i j : Nat) : (⟨L.toArray⟩ : ByteArray).extract i j = ⟨((L.take j).drop i).toArray⟩ := by
  apply ByteArray.ext
  simp [List.drop_take]
theorem dot_join (L : List UInt8) (a : Nat) : (⟨L.toArray⟩ : ByteArray).extract 0 a ++ ⟨#[46]⟩ ++ (⟨L.toArray⟩ : ByteArray).extract a L.length = ⟨(L.take a ++ [46] ++ L.drop a).toArray⟩ := by
  rw [ext_l, ext_l, List.take_length, List.drop_zero, ← bytes_app, ← bytes_app]
def dotL (L : List UInt8) (s : Int) : List UInt8 := if s = 0 then L else L.take (L.length - s.toNat) ++ [46] ++ L.drop (L.length - s.toNat)
def printL (n : Bool) (N : Nat) (s : Int) : List UInt8 := if n then 45 :: dotL (figL N (s + 1)) s else dotL (figL N (s + 1)) s
theorem minus_l (L : List UInt8) : (⟨#[45]⟩ ++ ⟨L.toArray⟩ : ByteArray) = ⟨(45 :: L).toArray⟩ := bytes_app [45] L
set_option maxRecDepth 100000 in
set_option maxHeartbeats 1600000 in
theorem print_c (n : Bool) (c0 c1 s : Int) (w : World) (h0 : U64 c0) (h1 : U64 c1) (hr : RightD n c0 c1 s) (N : Nat) (hN : v2 c0 c1 = N) (htab : Lib.TabIs Tryz.prog w "internal/strconv.uint64pow10" .u64 Lib.pow10Tab) :
    Calls Tryz.prog 26 #[.agg #[.bool n, .int .u64 c0, .int .u64 c1, .int .i64 s]] w (Ret w (· = .string ⟨(printL n N s).toArray⟩)) := by
  have hs : 0 ≤ s ∧ s ≤ 9 := ⟨hr.2.1, hr.2.2.1⟩
  have HR := Lib.hid hr
  have HN := Lib.hid (And.intro hN (hN ▸ hr.1))
  have HT := Lib.hid htab
  clear hr hN htab
  have W : HB w [(w.heap.size, 25, #[.bool n, .int .u64 c0, .int .u64 c1, .int .i64 s])] (w.alloc (.cells #[.bool n, .int .u64 c0, .int .u64 c1, .int .i64 s] 25)) := (HB.start (Below.refl _ w)).push _ _
  go_enter Tryz.func26, Tryz.ntmps26
  go_wp2_with fail
  have RC := right_c n c0 c1 s (w.alloc (.cells #[.bool n, .int .u64 c0, .int .u64 c1, .int .i64 s] 25)) h0 h1
  rw [decide_eq_true HR.out] at RC
  refine RC.mono ?_
  clear RC
  rintro e w1 ⟨_, rfl, rfl, hb1⟩
  have W1 := W.below hb1
  obtain ⟨g1, k0, k1, k2, k3⟩ := HB.dec (t := 25) (g := w.heap.size) (a := .bool n) (b := .int .u64 c0) (c := .int .u64 c1) (d := .int .i64 s) W1 (by simp)
  have T1 := tabIs_below HT.out W1.bel
  have HT1 := Lib.hid T1
  clear T1
  have sw : wrap64 (s + 1) = s + 1 := by unfold wrap64; omega
  go_wp2_with fail
  refine (figures_c c0 c1 (s + 1) w1 h0 h1 N HN.out.1 HN.out.2 (by omega) (by omega) HT1.out).mono ?_
  rintro e w2 ⟨_, rfl, rfl, hb2⟩
  have W2 := W1.below hb2
  obtain ⟨g2, p0, p1, p2, p3⟩ := HB.dec (t := 25) (g := w.heap.size) (a := .bool n) (b := .int .u64 c0) (c := .int .u64 c1) (d := .int .i64 s) W2 (by simp)
  have HB2 := Lib.hid W2.bel
  have q1 := figL_ge N (s + 1)
  have q2 := figL_le N (s + 1) HN.out.2 (by omega)
  clear W W1 W2 hb1 hb2 k0 k1 k2 k3 HT HT1 HN HR sw
  have EP : printL n N s = if n then 45 :: dotL (figL N (s + 1)) s else dotL (figL N (s + 1)) s := rfl
  replace EP := Lib.hid EP
  generalize figL N (s + 1) = L at *
  by_cases hs0 : s = 0
  · subst hs0
    cases n
    · go_wp2
      go_ret
      exact ⟨_, rfl, congrArg (fun l : List UInt8 => Ending.returned (.string ⟨l.toArray⟩)) (by rw [EP.out]; rfl), HB2.out⟩
    · go_wp2
      go_ret
      exact ⟨_, rfl, congrArg (fun x : ByteArray => Ending.returned (.string x)) (by rw [EP.out, minus_l]; rfl), HB2.out⟩
  · have hs1 : 0 < s := by omega
    obtain ⟨a, ha⟩ : ∃ a : Nat, (L.length : Int) - s = (a : Int) := ⟨((L.length : Int) - s).toNat, by omega⟩
    have ha1 : a ≤ L.length := by omega
    have ha2 : L.length - s.toNat = a := by omega
    have ED : dotL L s = L.take a ++ [46] ++ L.drop a := by unfold dotL; rw [if_neg hs0, ha2]
    have lM : (L.take a ++ [46] ++ L.drop a).length ≤ 201 := by simp; omega
    rw [ED] at EP
    clear ED
    go_wp2
    go_quiet (fail)
    rw [dot_join]
    generalize L.take a ++ [46] ++ L.drop a = M at *
    cases n
    · go_wp2
      go_ret
      exact ⟨_, rfl, congrArg (fun l : List UInt8 => Ending.returned (.string ⟨l.toArray⟩)) (by rw [EP.out]; rfl), bel_drewN HB2.out _⟩
    · go_wp2
      go_ret
      exact ⟨_, rfl, congrArg (fun x : ByteArray => Ending.returned (.string x)) (by rw [EP.out, minus_l]; rfl), bel_drewN HB2.out _⟩
end Go.Proofs.YtlhceelkefgjhaaGreatDoor

namespace Go.Proofs.YtlhceelkefgjhaaGreatDoor
open Go.RowKit
/-- The text: a minus or none, the whole digits, a point and its digits or none. -/
def tailL (W P : List UInt8) : List UInt8 := if P = [] then W else W ++ 46 :: P
def readL (n : Bool) (W P : List UInt8) : List UInt8 := if n then 45 :: tailL W P else tailL W P
theorem dig_ne {c : UInt8} (h : isDig c = true) : c ≠ 45 ∧ c ≠ 46 := by
  unfold isDig at h
  simp at h
  constructor <;> (rintro rfl; simp at h)
theorem index_dot : ∀ (W R : List UInt8), W.all isDig = true → Lib.index (W ++ 46 :: R) [46] = W.length
  | [], R, _ => by simp [Lib.index, List.isPrefixOf]
  | c :: W, R, h => by
    simp only [List.all_cons, Bool.and_eq_true] at h
    have ih := index_dot W R h.2
    have hc := (dig_ne h.1).2
    simp [Lib.index, List.isPrefixOf, ih, Ne.symm hc]
theorem index_none : ∀ (W : List UInt8), W.all isDig = true → Lib.index W [46] = -1
  | [], _ => by simp [Lib.index]
  | c :: W, h => by
    simp only [List.all_cons, Bool.and_eq_true] at h
    have ih := index_none W h.2
    have hc := (dig_ne h.1).2
    simp [Lib.index, List.isPrefixOf, ih, Ne.symm hc]
theorem cut_tail {W P : List UInt8} (hW : W.all isDig = true) : Lib.cut (tailL W P) [46] = (W, P, !P.isEmpty) := by
  unfold tailL Lib.cut
  by_cases hP : P = []
  · subst hP
    simp [index_none W hW]
  · rw [if_neg hP, index_dot W P hW]
    simp [hP, Int.natCast_nonneg]
theorem pre_read {n : Bool} {W P : List UInt8} (hW : W.all isDig = true) (hl : 1 ≤ W.length) : Lib.hasPrefix (readL n W P) [45] = n ∧ Lib.trimPrefix (readL n W P) [45] = tailL W P := by
  have h : Lib.hasPrefix (readL n W P) [45] = n := by
    cases n
    · cases W with
      | nil => simp at hl
      | cons c W =>
        simp only [List.all_cons, Bool.and_eq_true] at hW
        have hc := (dig_ne hW.1).1
        unfold Lib.hasPrefix readL tailL
        by_cases hP : P = [] <;> simp [hP, List.isPrefixOf, Ne.symm hc]
    · simp [Lib.hasPrefix, readL, List.isPrefixOf]
  refine ⟨h, ?_⟩
  unfold Lib.trimPrefix
  rw [h]
  cases n <;> simp [readL]
theorem tail_len {W P : List UInt8} (hl : W.length ≤ 30) (hp : P.length ≤ 9) : (tailL W P).length ≤ 40 := by
  unfold tailL; split
  · omega
  · simp; omega
theorem cell_keep {w wx : World} {a : Addr} {v : Value} (hb : Below w.heap.size w wx) (h : w.cell? a = some v) : wx.cell? a = some v := (hb.cell (World.block_lt_of_cell? _ _ h)).trans h
theorem cutpre_c {n : Bool} {W P : List UInt8} (hW : W.all isDig = true) (hl : 1 ≤ W.length) (w : World) :
    Calls Tryz.prog 44 #[.string ⟨(readL n W P).toArray⟩, .string ⟨#[45]⟩] w fun e w' => e = .returned (.tuple #[.string ⟨(tailL W P).toArray⟩, .bool n]) ∧ w = w' := by
  obtain ⟨e1, e2⟩ := pre_read (n := n) (P := P) hW hl
  refine (Tryz.strings_CutPrefix _ _ _).mono ?_
  rintro e w1 ⟨rfl, rfl⟩
  refine ⟨?_, rfl⟩
  show Ending.returned (.tuple #[.string ⟨(Lib.trimPrefix (readL n W P) [45]).toArray⟩, .bool (Lib.hasPrefix (readL n W P) [45])]) = _
  rw [e1, e2]
theorem cut_c {W P : List UInt8} (hW : W.all isDig = true) (tl : (tailL W P).length ≤ 100) (m : Int) (w : World) (hm : w.cell? ⟨0, 0, none⟩ = some (.int .i64 m)) :
    Calls Tryz.prog 45 #[.string ⟨(tailL W P).toArray⟩, .string ⟨#[46]⟩] w fun e w' => e = .returned (.tuple #[.string ⟨W.toArray⟩, .string ⟨P.toArray⟩, .bool (!P.isEmpty)]) ∧ ∃ k, w' = w.drewN k := by
  refine (Tryz.strings_Cut _ _ m _ (by show (tailL W P).length < _; omega) hm).mono ?_
  rintro e w1 ⟨rfl, k, rfl⟩
  refine ⟨?_, k, rfl⟩
  show Ending.returned (.tuple #[.string ⟨(Lib.cut (tailL W P) [46]).1.toArray⟩, .string ⟨(Lib.cut (tailL W P) [46]).2.1.toArray⟩, .bool (Lib.cut (tailL W P) [46]).2.2]) = _
  rw [cut_tail hW]
theorem number_app (W P : List UInt8) (w : World) (hb : W.length + P.length ≤ 1000) (hW : W.all isDig = true) (hP : P.all isDig = true) (hN : numL (W ++ P) < 1000000000000000000000000000000) :
    Calls Tryz.prog 47 #[.string (⟨W.toArray⟩ ++ ⟨P.toArray⟩)] w (Ret w (IsUp (numL (W ++ P)))) := by
  rw [bytes_app]
  exact number_ok _ w (by simp; omega) (by rw [List.all_append, hW, hP]; rfl) hN
set_option maxRecDepth 100000 in
set_option maxHeartbeats 1600000 in
theorem read_c (n : Bool) (W P : List UInt8) (m : Int) (w : World) (hW : 1 ≤ W.length) (hW2 : W.length ≤ 30) (hWd : W.all isDig = true) (hP : P.length ≤ 9) (hPd : P.all isDig = true) (hN : numL (W ++ P) < 1000000000000000000000000000000) (hz : n = true → numL (W ++ P) ≠ 0) (hm : w.cell? ⟨0, 0, none⟩ = some (.int .i64 m)) :
    Calls Tryz.prog 15 #[.string ⟨(readL n W P).toArray⟩] w (Ret w (IsDecE (zOf n (numL (W ++ P))) P.length 0)) := by
  have hle : w.heap.size ≤ w.heap.size := Nat.le_refl _
  have tl := tail_len hW2 hP
  have HN := Lib.hid (And.intro hN hz)
  have HW := Lib.hid (And.intro hWd hPd)
  have V : HB w [(w.heap.size, 25, #[.bool false, .int .u64 0, .int .u64 0, .int .i64 0])] (w.alloc (.cells #[.bool false, .int .u64 0, .int .u64 0, .int .i64 0] 25)) := (HB.start (Below.refl _ w)).push _ _
  clear hN hz hWd hPd
  go_enter Tryz.func15, Tryz.ntmps15
  go_wp2_with fail
  refine (cutpre_c HW.out.1 hW _).mono ?_
  rintro e w1 ⟨rfl, rfl⟩
  go_wp2_with fail
  refine (cut_c HW.out.1 (by omega) m _ ?_).mono ?_
  · exact cell_keep V.bel hm
  rintro e w1 ⟨rfl, k, rfl⟩
  have hWi : (W.length : Int) ≤ 30 := by omega
  have hPi : (P.length : Int) ≤ 9 := by omega
  go_wp2_with fail
  refine (digits_yes W 30 _ hW hWi (by omega) HW.out.1).mono ?_
  rintro e w1 ⟨rfl, rfl⟩
  have hlen : ¬ 9223372036854775807 < W.length + P.length := by omega
  generalize hpe : P.isEmpty = b
  cases b
  · have hP1 : 1 ≤ P.length := by cases P with
      | nil => simp at hpe
      | cons _ _ => simp
    go_wp2_with fail
    refine (digits_yes P 9 _ hP1 hPi (by omega) HW.out.2).mono ?_
    rintro e w1 ⟨rfl, rfl⟩
    go_wp2_with fail
    refine (number_app W P _ (by omega) HW.out.1 HW.out.2 HN.out.1).mono ?_
    rintro e w1 ⟨_, ⟨x, y, HX, rfl⟩, rfl, hb1⟩
    have V1 := V.below (Below.trans (bel_drewN (Below.refl _ _) k) hb1)
    obtain ⟨hx, hy, ex⟩ := HX
    have EX := Lib.hid ex
    have HXL := Lib.hid (ex.symm ▸ HN.out.1)
    clear ex
    have V1c := V1.alloc (.cells #[.int .u64 x, .int .u64 y] 23)
    cases n
    · go_wp2_with fail
      go_quiet (fail)
      have V2 := V1c.below (bel_drewN (Below.refl _ _) nq)
      clear V1c
      go_wp2_with fail
      refine (checked_d false x y P.length _ hx hy HXL.out (by omega) hPi).mono ?_
      rintro e w2 ⟨_, ⟨m', a', b', HD, rfl⟩, rfl, hb⟩
      rw [EX.out] at HD
      have V3 := V2.below hb
      obtain ⟨lq, q0, q1, q2, q3⟩ := HB.dec (t := 25) (g := w.heap.size) (a := .bool false) (b := .int .u64 0) (c := .int .u64 0) (d := .int .i64 0) V3 (by simp)
      have Bz := HB.blk (g := w.heap.size) (t := 25) (cs := #[.bool false, .int .u64 0, .int .u64 0, .int .i64 0]) V3 (by simp)
      have fz0 := Bz.frozen 0
      have fz1 := Bz.frozen 1
      have fz2 := Bz.frozen 2
      have fz3 := Bz.frozen 3
      have HB1 := Lib.hid V3.1
      have HDh := Lib.hid HD
      clear Bz V3 V2 HD V V1 hb hb1
      go_wp2
      exact bodyPost_ret (v := .tuple #[.agg #[.bool m', .int .u64 a', .int .u64 b', .int .i64 P.length], .int .i64 0]) (by simp [results, Tryz.results15, go_sem, q0, q1, q2, q3]) rfl ⟨_, ⟨_, _, _, HDh.out, rfl⟩, rfl, bel4 HB1.out hle⟩
    · have hβ : eqW2 x y 0 0 = false := by
        rw [eqW2_0 hx hy, EX.out]
        simpa using HN.out.2 rfl
      go_wp2_with fail
      go_region_held3 (fun w' => w'.cell? ⟨w1.heap.size, 0, none⟩ = some (.int .u64 x) ∧ w'.cell? ⟨w1.heap.size, 1, none⟩ = some (.int .u64 y)) (simp [go_sem]) (first | (go_at_call 48; refine (of_x _ _).mono ?_; rintro e wx ⟨rfl, rfl⟩))
      have V2 := (V1c.alloc (.cells #[.int .u64 0, .int .u64 0] 23)).drew
      clear V1c
      go_wp2_with fail
      refine (checked_d true x y P.length _ hx hy HXL.out (by omega) hPi).mono ?_
      rintro e w2 ⟨_, ⟨m', a', b', HD, rfl⟩, rfl, hb⟩
      rw [EX.out] at HD
      have V3 := V2.below hb
      obtain ⟨lq, q0, q1, q2, q3⟩ := HB.dec (t := 25) (g := w.heap.size) (a := .bool false) (b := .int .u64 0) (c := .int .u64 0) (d := .int .i64 0) V3 (by simp)
      have Bz := HB.blk (g := w.heap.size) (t := 25) (cs := #[.bool false, .int .u64 0, .int .u64 0, .int .i64 0]) V3 (by simp)
      have fz0 := Bz.frozen 0
      have fz1 := Bz.frozen 1
      have fz2 := Bz.frozen 2
      have fz3 := Bz.frozen 3
      have HB1 := Lib.hid V3.1
      have HDh := Lib.hid HD
      clear Bz V3 V2 HD V V1 hb hb1
      go_wp2
      exact bodyPost_ret (v := .tuple #[.agg #[.bool m', .int .u64 a', .int .u64 b', .int .i64 P.length], .int .i64 0]) (by simp [results, Tryz.results15, go_sem, q0, q1, q2, q3]) rfl ⟨_, ⟨_, _, _, HDh.out, rfl⟩, rfl, bel4 HB1.out hle⟩
  · go_wp2_with fail
    refine (number_app W P _ (by omega) HW.out.1 HW.out.2 HN.out.1).mono ?_
    rintro e w1 ⟨_, ⟨x, y, HX, rfl⟩, rfl, hb1⟩
    have V1 := V.below (Below.trans (bel_drewN (Below.refl _ _) k) hb1)
    obtain ⟨hx, hy, ex⟩ := HX
    have EX := Lib.hid ex
    have HXL := Lib.hid (ex.symm ▸ HN.out.1)
    clear ex
    have V1c := V1.alloc (.cells #[.int .u64 x, .int .u64 y] 23)
    cases n
    · go_wp2_with fail
      go_quiet (fail)
      have V2 := V1c.below (bel_drewN (Below.refl _ _) nq)
      clear V1c
      go_wp2_with fail
      refine (checked_d false x y P.length _ hx hy HXL.out (by omega) hPi).mono ?_
      rintro e w2 ⟨_, ⟨m', a', b', HD, rfl⟩, rfl, hb⟩
      rw [EX.out] at HD
      have V3 := V2.below hb
      obtain ⟨lq, q0, q1, q2, q3⟩ := HB.dec (t := 25) (g := w.heap.size) (a := .bool false) (b := .int .u64 0) (c := .int .u64 0) (d := .int .i64 0) V3 (by simp)
      have Bz := HB.blk (g := w.heap.size) (t := 25) (cs := #[.bool false, .int .u64 0, .int .u64 0, .int .i64 0]) V3 (by simp)
      have fz0 := Bz.frozen 0
      have fz1 := Bz.frozen 1
      have fz2 := Bz.frozen 2
      have fz3 := Bz.frozen 3
      have HB1 := Lib.hid V3.1
      have HDh := Lib.hid HD
      clear Bz V3 V2 HD V V1 hb hb1
      go_wp2
      exact bodyPost_ret (v := .tuple #[.agg #[.bool m', .int .u64 a', .int .u64 b', .int .i64 P.length], .int .i64 0]) (by simp [results, Tryz.results15, go_sem, q0, q1, q2, q3]) rfl ⟨_, ⟨_, _, _, HDh.out, rfl⟩, rfl, bel4 HB1.out hle⟩
    · have hβ : eqW2 x y 0 0 = false := by
        rw [eqW2_0 hx hy, EX.out]
        simpa using HN.out.2 rfl
      go_wp2_with fail
      go_region_held3 (fun w' => w'.cell? ⟨w1.heap.size, 0, none⟩ = some (.int .u64 x) ∧ w'.cell? ⟨w1.heap.size, 1, none⟩ = some (.int .u64 y)) (simp [go_sem]) (first | (go_at_call 48; refine (of_x _ _).mono ?_; rintro e wx ⟨rfl, rfl⟩))
      have V2 := (V1c.alloc (.cells #[.int .u64 0, .int .u64 0] 23)).drew
      clear V1c
      go_wp2_with fail
      refine (checked_d true x y P.length _ hx hy HXL.out (by omega) hPi).mono ?_
      rintro e w2 ⟨_, ⟨m', a', b', HD, rfl⟩, rfl, hb⟩
      rw [EX.out] at HD
      have V3 := V2.below hb
      obtain ⟨lq, q0, q1, q2, q3⟩ := HB.dec (t := 25) (g := w.heap.size) (a := .bool false) (b := .int .u64 0) (c := .int .u64 0) (d := .int .i64 0) V3 (by simp)
      have Bz := HB.blk (g := w.heap.size) (t := 25) (cs := #[.bool false, .int .u64 0, .int .u64 0, .int .i64 0]) V3 (by simp)
      have fz0 := Bz.frozen 0
      have fz1 := Bz.frozen 1
      have fz2 := Bz.frozen 2
      have fz3 := Bz.frozen 3
      have HB1 := Lib.hid V3.1
      have HDh := Lib.hid HD
      clear Bz V3 V2 HD V V1 hb hb1
      go_wp2
      exact bodyPost_ret (v := .tuple #[.agg #[.bool m', .int .u64 a', .int .u64 b', .int .i64 P.length], .int .i64 0]) (by simp [results, Tryz.results15, go_sem, q0, q1, q2, q3]) rfl ⟨_, ⟨_, _, _, HDh.out, rfl⟩, rfl, bel4 HB1.out hle⟩
end Go.Proofs.YtlhceelkefgjhaaGreatDoor

namespace Go.Proofs.YtlhceelkefgjhaaGreatDoor
open Go.RowKit
theorem numL_cons (c : UInt8) (l : List UInt8) : numL (c :: l) = (c.toNat - 48) * 10 ^ l.length + numL l := by
  have h : ∀ (l : List UInt8) (a : Nat), l.foldl (fun n c => n * 10 + (c.toNat - 48)) a = a * 10 ^ l.length + l.foldl (fun n c => n * 10 + (c.toNat - 48)) 0 := by
    intro l
    induction l with
    | nil => intro a; simp
    | cons d l ih =>
      intro a
      simp only [List.foldl_cons, List.length_cons]
      rw [ih (a * 10 + (d.toNat - 48)), ih (0 * 10 + (d.toNat - 48)), Nat.pow_succ]
      rw [Nat.zero_mul, Nat.zero_add, Nat.add_mul, Nat.mul_assoc, Nat.mul_comm 10, Nat.add_assoc]
  unfold numL
  rw [List.foldl_cons, h]
  simp
theorem numL_app : ∀ (a b : List UInt8), numL (a ++ b) = numL a * 10 ^ b.length + numL b
  | [], b => by simp [numL]
  | c :: a, b => by
    rw [List.cons_append, numL_cons, numL_app a b, numL_cons, List.length_append, Nat.pow_add, Nat.add_mul, Nat.mul_assoc, Nat.add_assoc]
theorem numL_zeros (l : List UInt8) : ∀ k, numL (Lib.repeatL [48] k ++ l) = numL l
  | 0 => by simp [Lib.repeatL]
  | k + 1 => by
    have ih := numL_zeros l k
    show numL (48 :: (Lib.repeatL [48] k ++ l)) = _
    rw [numL_cons, ih]
    simp
theorem numL_pad (l : List UInt8) (m : Int) : numL (padL l m) = numL l := numL_zeros l _
theorem numL_trim : ∀ (l : List UInt8), numL (Lib.trimLeftB l 48) = numL l
  | [] => rfl
  | c :: l => by
    have ih := numL_trim l
    unfold Lib.trimLeftB at *
    by_cases hc : c = 48
    · subst hc
      rw [List.dropWhile_cons_of_pos (by simp), ih, numL_cons]
      simp
    · rw [List.dropWhile_cons_of_neg (by simpa using hc)]
theorem dig_of {d : Nat} (h : d < 10) : (UInt8.ofNat (48 + d)).toNat = 48 + d := by
  rw [UInt8.toNat_ofNat']; omega
theorem dec_num (u : Nat) : numL (Lib.decDigits u) = u := by
  induction u using Nat.strongRecOn with
  | _ u ih =>
    rw [Lib.decDigits]
    by_cases h : u < 10
    · rw [dif_pos h, numL_cons, dig_of h]
      simp [numL]
    · rw [dif_neg h, numL_app, ih (u / 10) (by omega), numL_cons, dig_of (by omega)]
      simp [numL]
      omega
theorem isDig_of {d : Nat} (h : d < 10) : isDig (UInt8.ofNat (48 + d)) = true := by
  unfold isDig; rw [dig_of h]; simp; omega
theorem dec_dig (u : Nat) : (Lib.decDigits u).all isDig = true := by
  induction u using Nat.strongRecOn with
  | _ u ih =>
    rw [Lib.decDigits]
    by_cases h : u < 10
    · rw [dif_pos h, List.all_cons, isDig_of h]; rfl
    · rw [dif_neg h, List.all_append, ih (u / 10) (by omega), List.all_cons, isDig_of (show u % 10 < 10 by omega)]
      rfl
theorem zeros_dig : ∀ k, (Lib.repeatL [48] k).all isDig = true
  | 0 => rfl
  | k + 1 => by
    show (48 :: Lib.repeatL [48] k).all isDig = true
    rw [List.all_cons, zeros_dig k]
    rfl
theorem pad_dig {l : List UInt8} (h : l.all isDig = true) (m : Int) : (padL l m).all isDig = true := by
  unfold padL; rw [List.all_append, zeros_dig, h]; rfl
theorem trim_dig {l : List UInt8} (h : l.all isDig = true) : (Lib.trimLeftB l 48).all isDig = true := by
  rw [List.all_eq_true] at *
  exact fun c hc => h c ((List.dropWhile_sublist _).subset hc)
theorem fig_dig (N : Nat) (m : Int) : (figL N m).all isDig = true := by
  unfold figL
  exact pad_dig (trim_dig (by rw [List.all_append, dec_dig, pad_dig (dec_dig _)]; rfl)) m
theorem dec_len15 {u : Nat} (h : u < 1000000000000000) : (Lib.decDigits u).length ≤ 15 := by
  rw [Lib.decDigits_length]; exact nDig_pow 14 u (Nat.lt_of_lt_of_le h (by decide))
theorem pad15 {u : Nat} (h : u < 1000000000000000) : (padL (Lib.decDigits u) 15).length = 15 := by
  have := dec_len15 h
  rw [padL_length]; omega
theorem fig_num (N : Nat) (m : Int) : numL (figL N m) = N := by
  have h : N % 1000000000000000 < 1000000000000000 := by omega
  unfold figL
  rw [numL_pad, numL_trim, numL_app, numL_pad, dec_num, dec_num, pad15 h]
  omega
theorem fig_len (N : Nat) (m : Int) (hN : N < 1000000000000000000000000000000) : ((figL N m).length : Int) ≤ max m 30 := by
  have h : N % 1000000000000000 < 1000000000000000 := by omega
  have h' : N / 1000000000000000 < 1000000000000000 := by omega
  have l1 := dec_len15 h'
  have l3 := trimLeftB_le (Lib.decDigits (N / 1000000000000000) ++ padL (Lib.decDigits (N % 1000000000000000)) 15) 48
  rw [List.length_append, pad15 h] at l3
  unfold figL
  rw [padL_length]
  omega
/-- The printed text is a text of Read's: whole digits W, the part's digits P. -/
theorem print_read (n : Bool) (N : Nat) (s : Int) (hN : N < 1000000000000000000000000000000) (h0 : 0 ≤ s) (h9 : s ≤ 9) :
    ∃ W P : List UInt8, printL n N s = readL n W P ∧ 1 ≤ W.length ∧ W.length ≤ 30 ∧ W.all isDig = true ∧ P.all isDig = true ∧ (P.length : Int) = s ∧ numL (W ++ P) = N := by
  have q1 := figL_ge N (s + 1)
  have q2 := fig_len N (s + 1) hN
  have q3 := fig_dig N (s + 1)
  have q4 := fig_num N (s + 1)
  refine ⟨(figL N (s + 1)).take ((figL N (s + 1)).length - s.toNat), (figL N (s + 1)).drop ((figL N (s + 1)).length - s.toNat), ?_, ?_, ?_, ?_, ?_, ?_, ?_⟩
  · unfold printL readL
    have e : dotL (figL N (s + 1)) s = tailL ((figL N (s + 1)).take ((figL N (s + 1)).length - s.toNat)) ((figL N (s + 1)).drop ((figL N (s + 1)).length - s.toNat)) := by
      generalize figL N (s + 1) = L at *
      unfold dotL tailL
      by_cases hs : s = 0
      · subst hs
        simp
      · have hd : ¬ L.drop (L.length - s.toNat) = [] := by
          intro h
          have := congrArg List.length h
          simp at this
          omega
        rw [if_neg hs, if_neg hd]
        simp
    rw [e]
  · simp; omega
  · simp; omega
  · rw [List.all_eq_true] at *
    exact fun c hc => q3 c (List.mem_of_mem_take hc)
  · rw [List.all_eq_true] at *
    exact fun c hc => q3 c (List.mem_of_mem_drop hc)
  · simp; omega
  · rw [List.take_append_drop]; exact q4
end Go.Proofs.YtlhceelkefgjhaaGreatDoor

namespace Go.Proofs.YtlhceelkefgjhaaGreatDoor
open Go.RowKit
theorem dd0 : Lib.decDigits 0 = [48] := by rw [Lib.decDigits]; rfl
theorem dd1250 : Lib.decDigits 1250 = [49, 50, 53, 48] := by
  rw [Lib.decDigits, dif_neg (by omega), Lib.decDigits, dif_neg (by omega), Lib.decDigits, dif_neg (by omega), Lib.decDigits, dif_pos (by omega)]
  rfl
theorem print1250 : printL true 1250 2 = [45, 49, 50, 46, 53, 48] := by
  unfold printL figL
  rw [show 1250 / 1000000000000000 = 0 from rfl, show 1250 % 1000000000000000 = 1250 from rfl, dd0, dd1250]
  rfl
theorem read1250 (m : Int) (w : World) (hm : w.cell? ⟨0, 0, none⟩ = some (.int .i64 m)) : Calls Tryz.prog 15 #[.string ⟨#[45, 49, 50, 46, 53, 48]⟩] w (Ret w (· = .tuple #[.agg #[.bool true, .int .u64 1250, .int .u64 0, .int .i64 2], .int .i64 0])) := by
  refine (read_c true [49, 50] [53, 48] m w (by decide) (by decide) (by decide) (by decide) (by decide) (by decide) (by decide) hm).mono ?_
  rintro e w' ⟨_, ⟨n, a, b, HD, rfl⟩, rfl, hb⟩
  refine ⟨_, ?_, rfl, hb⟩
  obtain ⟨h1, h2, h3, h4⟩ := HD
  have ez : zOf true (numL ([49, 50] ++ [53, 48])) = -1250 := by decide
  rw [ez] at h1 h4
  have hn : n = true := by simpa using h1
  have h4' : v2 a b = 1250 := by simpa using h4
  obtain ⟨ea, eb⟩ : a = 1250 ∧ b = 0 := by unfold U64 at h2 h3; unfold v2 at h4'; omega
  subst hn ea eb
  rfl
theorem printed1250 (w : World) (htab : Lib.TabIs Tryz.prog w "internal/strconv.uint64pow10" .u64 Lib.pow10Tab) : Calls Tryz.prog 26 #[.agg #[.bool true, .int .u64 1250, .int .u64 0, .int .i64 2]] w (Ret w (· = .string ⟨#[45, 49, 50, 46, 53, 48]⟩)) := by
  have h := print_c true 1250 0 2 w (by unfold U64; decide) (by unfold U64; decide) (by decide) 1250 (by decide) htab
  rw [print1250] at h
  exact h
set_option maxRecDepth 100000 in
set_option maxHeartbeats 1600000 in
theorem known_c (m : Int) (w : World) (hm : w.cell? ⟨0, 0, none⟩ = some (.int .i64 m)) (htab : Lib.TabIs Tryz.prog w "internal/strconv.uint64pow10" .u64 Lib.pow10Tab) : Calls Tryz.prog 17 #[] w (Ret w (IsBool true)) := by
  have HT := Lib.hid htab
  clear htab
  go_enter Tryz.func17, Tryz.ntmps17
  go_wp2_with fail
  refine (read1250 m _ hm).mono ?_
  rintro e w1 ⟨_, rfl, rfl, hb1⟩
  have he : eqW2 1250 0 1250 0 = true := rfl
  have hbx := bel_alloc hb1 (.cells #[.bool true, .int .u64 1250, .int .u64 0, .int .i64 2] 25)
  go_wp2_with fail
  refine (printed1250 _ (tabIs_below HT.out hbx)).mono ?_
  rintro e w2 ⟨_, rfl, rfl, hb2⟩
  have HB2 := Lib.hid (hbx.trans (hb2.mono hbx.size))
  clear hbx hb2 hb1
  go_wp2
  go_ret
  exact ⟨_, rfl, rfl, HB2.out⟩
end Go.Proofs.YtlhceelkefgjhaaGreatDoor

namespace Go.Proofs.YtlhceelkefgjhaaGreatDoor
open Go.RowKit
set_option maxHeartbeats 800000 in
theorem digits_long (l : List UInt8) (most : Int) (w : World) (hl : 1 ≤ l.length) (hm : most < (l.length : Int)) (hb : l.length ≤ 1000) :
    Calls Tryz.prog 46 #[.string ⟨l.toArray⟩, .int .i64 most] w fun e w' => e = .returned (.bool false) ∧ w = w' := by
  have g1 : decide ((l.length : Int) < 1) = false := by simp; omega
  have g2 : decide (most < (l.length : Int)) = true := by simp; omega
  go_enter Tryz.func46, Tryz.ntmps46
  go_wp2
  go_ret
  exact ⟨rfl, rfl⟩
set_option maxRecDepth 100000 in
set_option maxHeartbeats 1600000 in
theorem print_no (n : Bool) (c0 c1 s : Int) (w : World) (h0 : U64 c0) (h1 : U64 c1) (hr : ¬ RightD n c0 c1 s) :
    Calls Tryz.prog 26 #[.agg #[.bool n, .int .u64 c0, .int .u64 c1, .int .i64 s]] w (Ret w (· = .string ⟨#[]⟩)) := by
  have HR := Lib.hid hr
  clear hr
  have W : HB w [(w.heap.size, 25, #[.bool n, .int .u64 c0, .int .u64 c1, .int .i64 s])] (w.alloc (.cells #[.bool n, .int .u64 c0, .int .u64 c1, .int .i64 s] 25)) := (HB.start (Below.refl _ w)).push _ _
  go_enter Tryz.func26, Tryz.ntmps26
  go_wp2_with fail
  have RC := right_c n c0 c1 s (w.alloc (.cells #[.bool n, .int .u64 c0, .int .u64 c1, .int .i64 s] 25)) h0 h1
  rw [decide_eq_false HR.out] at RC
  refine RC.mono ?_
  clear RC
  rintro e w1 ⟨_, rfl, rfl, hb1⟩
  have W1 := W.below hb1
  have HB1 := Lib.hid W1.bel
  clear W W1 hb1
  go_wp2
  go_ret
  exact ⟨_, rfl, rfl, HB1.out⟩
theorem tail_len' {W P : List UInt8} (hl : W.length ≤ 60) (hp : P.length ≤ 9) : (tailL W P).length ≤ 100 := by
  unfold tailL; split
  · omega
  · simp; omega
set_option maxRecDepth 100000 in
set_option maxHeartbeats 1600000 in
theorem read_long (n : Bool) (W P : List UInt8) (m : Int) (w : World) (hW : 31 ≤ W.length) (hW2 : W.length ≤ 60) (hWd : W.all isDig = true) (hP : P.length ≤ 9) (hm : w.cell? ⟨0, 0, none⟩ = some (.int .i64 m)) :
    Calls Tryz.prog 15 #[.string ⟨(readL n W P).toArray⟩] w (Ret w (· = .tuple #[.agg #[.bool false, .int .u64 0, .int .u64 0, .int .i64 0], .int .i64 2])) := by
  have hle : w.heap.size ≤ w.heap.size := Nat.le_refl _
  have tl := tail_len' hW2 hP
  have HW := Lib.hid hWd
  have V : HB w [(w.heap.size, 25, #[.bool false, .int .u64 0, .int .u64 0, .int .i64 0])] (w.alloc (.cells #[.bool false, .int .u64 0, .int .u64 0, .int .i64 0] 25)) := (HB.start (Below.refl _ w)).push _ _
  clear hWd
  go_enter Tryz.func15, Tryz.ntmps15
  go_wp2_with fail
  refine (cutpre_c HW.out (by omega) _).mono ?_
  rintro e w1 ⟨rfl, rfl⟩
  go_wp2_with fail
  refine (cut_c HW.out tl m _ ?_).mono ?_
  · exact cell_keep V.bel hm
  rintro e w1 ⟨rfl, k, rfl⟩
  have hWi : (30 : Int) < (W.length : Int) := by omega
  go_wp2_with fail
  refine (digits_long W 30 _ (by omega) hWi (by omega)).mono ?_
  rintro e w1 ⟨rfl, rfl⟩
  have V3 := V.below (bel_drewN (Below.refl _ _) k)
  generalize hpe : P.isEmpty = b
  obtain ⟨lq, q0, q1, q2, q3⟩ := HB.dec (t := 25) (g := w.heap.size) (a := .bool false) (b := .int .u64 0) (c := .int .u64 0) (d := .int .i64 0) V3 (by simp)
  have Bz := HB.blk (g := w.heap.size) (t := 25) (cs := #[.bool false, .int .u64 0, .int .u64 0, .int .i64 0]) V3 (by simp)
  have fz0 := Bz.frozen 0
  have fz1 := Bz.frozen 1
  have fz2 := Bz.frozen 2
  have fz3 := Bz.frozen 3
  have HB1 := Lib.hid V3.1
  clear Bz V3 V
  go_wp2
  exact bodyPost_ret (v := .tuple #[.agg #[.bool false, .int .u64 0, .int .u64 0, .int .i64 0], .int .i64 2]) (by simp [results, Tryz.results15, go_sem, q0, q1, q2, q3]) rfl ⟨_, rfl, rfl, bel4 HB1.out hle⟩
end Go.Proofs.YtlhceelkefgjhaaGreatDoor

namespace Go.Proofs.YtlhceelkefgjhaaGreatDoor
open Go.RowKit
theorem num_step' {s0 s1 t0 t1 : Int} {q : Bool} {M d : Nat} (e1 : v2 s0 s1 = M * 10) (hM : M * 10 + d < 10000000000000000000000000000000) (ha : AddR s0 s1 d 0 t0 t1 q) : U64 t0 ∧ U64 t1 ∧ v2 t0 t1 = M * 10 + d := by
  have e2 : v2 (d : Int) 0 = d := by simp [v2]
  obtain ⟨a, b, ⟨_, _, f⟩ | ⟨hl, _⟩⟩ := ha
  · exact ⟨a, b, by rw [f, e1, e2]⟩
  · rw [e1, e2] at hl; omega
set_option maxHeartbeats 800000 in
theorem digits_none (most : Int) (w : World) :
    Calls Tryz.prog 46 #[.string ⟨([] : List UInt8).toArray⟩, .int .i64 most] w fun e w' => e = .returned (.bool false) ∧ w = w' := by
  go_enter Tryz.func46, Tryz.ntmps46
  go_wp2
  go_ret
  exact ⟨rfl, rfl⟩
theorem all_take {l : List UInt8} {k : Nat} (hk : k < l.length) (h : (l.take k).all isDig = true) (hc : isDig l[k] = true) : (l.take (k + 1)).all isDig = true := by
  rw [List.take_succ_eq_append_getElem hk, List.all_append, h]
  simp [hc]
set_option maxRecDepth 100000 in
set_option maxHeartbeats 800000 in
theorem digits_bad (l : List UInt8) (most : Int) (w : World) (hl : 1 ≤ l.length) (hm : (l.length : Int) ≤ most) (hb : l.length ≤ 1000) (hd : l.all isDig = false) :
    Calls Tryz.prog 46 #[.string ⟨l.toArray⟩, .int .i64 most] w fun e w' => e = .returned (.bool false) ∧ w = w' := by
  have g1 : decide ((l.length : Int) < 1) = false := by simp; omega
  have g2 : decide (most < (l.length : Int)) = false := by simp; omega
  have HD := Lib.hid hd
  clear hd
  go_enter Tryz.func46, Tryz.ntmps46
  go_wp2
  go_loop [17] (fun s => ∃ k : Nat, k ≤ l.length ∧ s = .int .i64 k ∧ (l.take k).all isDig = true) (fun s => l.length - (intOf s).toNat)
  case atStart => exact ⟨0, Nat.zero_le _, rfl, by simp⟩
  case round =>
    obtain ⟨k, hk, rfl, hal⟩ := hrel
    have HAL := Lib.hid hal
    clear hal
    by_cases hlt : k < l.length
    · by_cases hc : isDig l[k] = true
      · have h1 : 48 ≤ ((⟨l.toArray⟩ : ByteArray)[k]'hlt).toNat ∧ ((⟨l.toArray⟩ : ByteArray)[k]'hlt).toNat ≤ 57 := by
          have := hc
          simp [isDig] at this
          exact this
        have HN := Lib.hid (all_take hlt HAL.out hc)
        clear hc
        go_wp2
        all_goals first
          | exact ⟨⟨k + 1, by omega, by go_num, HN.out⟩, by simp [intOf]; omega⟩
          | (exfalso; omega)
      · have h1 : ¬ (48 ≤ ((⟨l.toArray⟩ : ByteArray)[k]'hlt).toNat ∧ ((⟨l.toArray⟩ : ByteArray)[k]'hlt).toNat ≤ 57) := by
          intro h
          apply hc
          simp [isDig]
          exact h
        clear hc
        go_wp2
        all_goals first
          | (go_ret; exact ⟨rfl, rfl⟩)
          | (exfalso; omega)
    · exfalso
      have := HAL.out
      rw [List.take_of_length_le (by omega), HD.out] at this
      cases this
set_option maxHeartbeats 800000 in
theorem digits_long' (l : List UInt8) (most : Int) (w : World) (hl : 1 ≤ l.length) (hm : most < (l.length : Int)) (hb : l.length ≤ 281474976710656) :
    Calls Tryz.prog 46 #[.string ⟨l.toArray⟩, .int .i64 most] w fun e w' => e = .returned (.bool false) ∧ w = w' := by
  have g1 : decide ((l.length : Int) < 1) = false := by simp; omega
  have g2 : decide (most < (l.length : Int)) = true := by simp; omega
  go_enter Tryz.func46, Tryz.ntmps46
  go_wp2
  go_ret
  exact ⟨rfl, rfl⟩
theorem digits_any (l : List UInt8) (most : Int) (β : Bool) (w : World) (hm : most ≤ 1000) (hβ : digB l most = β) (hb : l.length ≤ 281474976710656) :
    Calls Tryz.prog 46 #[.string ⟨l.toArray⟩, .int .i64 most] w fun e w' => e = .returned (.bool β) ∧ w = w' := by
  subst hβ
  unfold digB
  by_cases h0 : l.length = 0
  · obtain rfl : l = [] := List.eq_nil_of_length_eq_zero h0
    exact digits_none most w
  · by_cases h1 : (l.length : Int) ≤ most
    · rw [decide_eq_true (show 1 ≤ l.length ∧ (l.length : Int) ≤ most from ⟨by omega, h1⟩), Bool.true_and]
      cases hd : l.all isDig with
      | true => exact digits_yes l most w (by omega) h1 (by omega) hd
      | false => exact digits_bad l most w (by omega) h1 (by omega) hd
    · rw [decide_eq_false (show ¬ (1 ≤ l.length ∧ (l.length : Int) ≤ most) from fun h => h1 h.2), Bool.false_and]
      exact digits_long' l most w (by omega) (by omega) hb
set_option maxRecDepth 100000 in
set_option maxHeartbeats 3200000 in
theorem number_over (l : List UInt8) (w : World) (hb : l.length ≤ 1000) (hd : l.all isDig = true) (hN : 1000000000000000000000000000000 ≤ numL l) :
    Calls Tryz.prog 47 #[.string ⟨l.toArray⟩] w (Ret w (· = .tuple #[.agg #[.int .u64 0, .int .u64 0], .bool false])) := by
  have HD := Lib.hid (take_dig hd)
  have W0 := Lib.hid (n0 w)
  have HN := Lib.hid hN
  have hle : w.heap.size ≤ w.heap.size + 1 + 1 := by omega
  clear hd hN
  go_enter Tryz.func47, Tryz.ntmps47
  go_wp2_with fail
  refine (of_x 0 _).mono ?_
  rintro e w1 ⟨rfl, rfl⟩
  go_wp2_with fail
  go_loopw [9] (fun s wr => ∃ (k : Nat) (x y : Int), k ≤ l.length ∧ s = .int .i64 k ∧ (U64 x ∧ U64 y ∧ v2 x y = numL (l.take k) ∧ numL (l.take k) < 1000000000000000000000000000000) ∧ HB w [(w.heap.size + 1 + 1, 23, #[.int .u64 x, .int .u64 y]), (w.heap.size, 23, #[.int .u64 0, .int .u64 0])] wr) (fun s _ => l.length - (intOf s).toNat)
  case atStart => exact ⟨0, 0, 0, Nat.zero_le _, rfl, ⟨u64_0, u64_0, rfl, by rw [List.take_zero]; decide⟩, W0.out⟩
  case round =>
    clear W0
    obtain ⟨k, x, y, hk, rfl, ⟨hx, hy, ex, hlt30⟩, W⟩ := hrel
    have EX := Lib.hid ex
    have HLT := Lib.hid hlt30
    clear ex hlt30
    by_cases hlt : k < l.length
    · have hc := HD.out k hlt
      have hNt := numL_take l k hlt
      have hNl := numL_le l (k + 1) hlt
      obtain ⟨d, hdd⟩ : ∃ d, l[k].toNat - 48 = d := ⟨_, rfl⟩
      have hwr : IntKind.u8.wrap ((((⟨l.toArray⟩ : ByteArray)[k]'hlt).toNat : Int) - 48) = (d : Int) := by
        have := u8_wrap hc.1 hc.2
        rw [hdd] at this
        exact this
      have hd9 : d ≤ 9 := by omega
      have ud : U64 (d : Int) := by unfold U64; omega
      have hwr2 : IntKind.u64.wrap (d : Int) = (d : Int) := by rw [IntKind.wrap_u64]; omega
      rw [hdd] at hNt
      have hM : numL (l.take k) * 10 + d < 10000000000000000000000000000000 := by have := HLT.out; omega
      have HM := Lib.hid hM
      have HNT := Lib.hid hNt
      have HNL := Lib.hid hNl
      clear hNt hNl hM hc hdd
      have B4 := W.blk (g := w.heap.size + 1 + 1) (t := 23) (cs := #[.int .u64 x, .int .u64 y]) (by simp)
      have B0 := W.blk (g := w.heap.size) (t := 23) (cs := #[.int .u64 0, .int .u64 0]) (by simp)
      have HW := W.1
      have c0 := B4.cell 0
      have c1 := B4.cell 1
      simp at c0 c1
      go_upto_region 5 with fail
      go_cut [12] (fun _ wx => ∃ s0 s1 : Int, (U64 s0 ∧ U64 s1 ∧ v2 s0 s1 = numL (l.take k) * 10) ∧ HB w [(w.heap.size + 1 + 1, 23, #[.int .u64 s0, .int .u64 s1]), (w.heap.size, 23, #[.int .u64 0, .int .u64 0])] wx)
      case first => as_aux_lemma =>
        go_region_with (first
            | (go_at_call 48; refine (of_x 10 _).mono ?_; rintro e w1 ⟨rfl, rfl⟩; have hz := B4.lt)
            | (go_at_call 35; refine (mul_c x y 10 0 _ hx hy u64_10 u64_0).mono ?_; rintro e w2 ⟨_, ⟨m0, m1, m2, m3, HMu, rfl⟩, rfl, hb2⟩)
            | (go_at_call 34; refine (short_c _ _ _ _ _).mono ?_; rintro e w3 ⟨_, ⟨s0, s1, p, HS, rfl⟩, rfl, hb3⟩; have BB := (((B4.alloc _).drew).below hb2 (by have := B4.lt; simp; omega)).below hb3 (by have := hb2.size; have := B4.lt; simp at *; omega); have d0 := BB.cell 0; have d1 := BB.cell 1; have f0 := BB.frozen 0; have f1 := BB.frozen 1; simp at d0 d1))
        all_goals
          have BZ := ((B0.alloc (.cells #[.int .u64 10, .int .u64 0] 23)).drew.below hb2 (by have := B0.lt; simp; omega)).below hb3 (by have := hb2.size; have := B0.lt; simp at *; omega)
          have HZ := (((HW.alloc HW.size (.cells #[.int .u64 10, .int .u64 0] 23)).drew).trans (hb2.mono (by have := HW.size; simp; omega))).trans (hb3.mono (by have := hb2.size; have := HW.size; simp at *; omega))
          have hsu := short_u EX.out HLT.out HMu HS
          have W3 : HB w [(w.heap.size + 1 + 1, 23, #[.int .u64 x, .int .u64 y]), (w.heap.size, 23, #[.int .u64 0, .int .u64 0])] w3 := ⟨HZ, by simp; exact ⟨BB, BZ⟩⟩
          have W4 := Lib.hid (HB.put2 (g := w.heap.size + 1 + 1) (t := 23) (a := .int .u64 x) (b := .int .u64 y) (a' := .int .u64 s0) (b' := .int .u64 s1) (bs' := [(w.heap.size, 23, #[.int .u64 0, .int .u64 0])]) W3 (by simp) hle (by simp; omega))
          clear W3 BZ HZ
          go_wp2_with fail
          go_meet
          case rel => exact ⟨s0, s1, hsu, W4.out⟩
      case rest => as_aux_lemma =>
        clear W B4 B0 HW c0 c1 hx hy EX
        obtain ⟨s0, s1, ⟨hs0, hs1, es⟩, W⟩ := hcut
        have ES := Lib.hid es
        clear es
        have B4 := W.blk (g := w.heap.size + 1 + 1) (t := 23) (cs := #[.int .u64 s0, .int .u64 s1]) (by simp)
        have B0 := W.blk (g := w.heap.size) (t := 23) (cs := #[.int .u64 0, .int .u64 0]) (by simp)
        have HW := W.1
        have c0 := B4.cell 0
        have c1 := B4.cell 1
        simp at c0 c1
        go_upto_region 6 with fail
        go_cut [19] (fun _ wx => ∃ t0 t1 : Int, (U64 t0 ∧ U64 t1 ∧ v2 t0 t1 = numL (l.take k) * 10 + d) ∧ HB w [(w.heap.size + 1 + 1, 23, #[.int .u64 t0, .int .u64 t1]), (w.heap.size, 23, #[.int .u64 0, .int .u64 0])] wx)
        case first => as_aux_lemma =>
          go_region_with (first
              | (go_at_call 48; refine (of_x (d : Int) _).mono ?_; rintro e w1 ⟨rfl, rfl⟩; have hz := B4.lt)
              | (go_at_call 32; refine (add_c s0 s1 (d : Int) 0 _ hs0 hs1 ud u64_0).mono ?_; rintro e w3 ⟨_, ⟨t0, t1, p, HA, rfl⟩, rfl, hb3⟩; have BB := ((B4.alloc _).drew).below hb3 (by have := B4.lt; simp; omega); have d0 := BB.cell 0; have d1 := BB.cell 1; have f0 := BB.frozen 0; have f1 := BB.frozen 1; simp at d0 d1))
          all_goals
            have BZ := (B0.alloc (.cells #[.int .u64 (d : Int), .int .u64 0] 23)).drew.below hb3 (by have := B0.lt; simp; omega)
            have HZ := ((HW.alloc HW.size (.cells #[.int .u64 (d : Int), .int .u64 0] 23)).drew).trans (hb3.mono (by have := HW.size; simp; omega))
            have hsu := num_step' ES.out HM.out HA
            have W3 : HB w [(w.heap.size + 1 + 1, 23, #[.int .u64 s0, .int .u64 s1]), (w.heap.size, 23, #[.int .u64 0, .int .u64 0])] w3 := ⟨HZ, by simp; exact ⟨BB, BZ⟩⟩
            have W4 := Lib.hid (HB.put2 (g := w.heap.size + 1 + 1) (t := 23) (a := .int .u64 s0) (b := .int .u64 s1) (a' := .int .u64 t0) (b' := .int .u64 t1) (bs' := [(w.heap.size, 23, #[.int .u64 0, .int .u64 0])]) W3 (by simp) hle (by simp; omega))
            clear W3 BZ HZ
            go_wp2_with fail
            go_meet
            case rel => exact ⟨t0, t1, hsu, W4.out⟩
        case rest => as_aux_lemma =>
          clear W B4 B0 HW c0 c1 hs0 hs1 ES hwr hwr2
          obtain ⟨t0, t1, ⟨ht0, ht1, et⟩, W⟩ := hcut
          by_cases h30 : numL (l.take k) * 10 + d < 1000000000000000000000000000000
          · have hf : fitB t0 t1 = true := by unfold fitB; rw [et]; simp [h30]
            have H30 := Lib.hid (show numL (l.take (k + 1)) < 1000000000000000000000000000000 by rw [HNT.out]; exact h30)
            have ET := Lib.hid (et.trans HNT.out.symm)
            obtain ⟨lq, q0, q1⟩ := HB.two (t := 23) (g := w.heap.size + 1 + 1) (a := .int .u64 t0) (b := .int .u64 t1) W (by simp)
            have C := fits_c t0 t1 wc ht0 ht1
            rw [hf] at C
            have HC := Lib.hid C
            clear et hf C h30
            go_wp2_with fail
            refine HC.out.mono ?_
            rintro e w5 ⟨_, rfl, rfl, hb5⟩
            have W5 := Lib.hid (W.below hb5)
            clear HC hb5 W q0 q1 lq
            go_wp2
            go_roundw
            case rel => exact ⟨k + 1, t0, t1, by omega, by go_num, ⟨ht0, ht1, ET.out, H30.out⟩, W5.out⟩
            case measure => simp [intOf]; omega
          · have hf : fitB t0 t1 = false := by unfold fitB; rw [et]; simp; omega
            obtain ⟨lq, q0, q1⟩ := HB.two (t := 23) (g := w.heap.size + 1 + 1) (a := .int .u64 t0) (b := .int .u64 t1) W (by simp)
            have C := fits_c t0 t1 wc ht0 ht1
            rw [hf] at C
            have HC := Lib.hid C
            clear et hf C h30
            go_wp2_with fail
            refine HC.out.mono ?_
            rintro e w5 ⟨_, rfl, rfl, hb5⟩
            have W5 := W.below hb5
            clear HC hb5 W q0 q1 lq
            obtain ⟨lp, p0, p1⟩ := HB.two (t := 23) (g := w.heap.size) (a := .int .u64 0) (b := .int .u64 0) W5 (by simp)
            have B0 := W5.blk (g := w.heap.size) (t := 23) (cs := #[.int .u64 0, .int .u64 0]) (by simp)
            have f0 := B0.frozen 0
            have f1 := B0.frozen 1
            have HB1 := Lib.hid W5.1
            clear W5 B0
            go_wp2
            exact bodyPost_ret (v := .tuple #[.agg #[.int .u64 0, .int .u64 0], .bool false]) (by simp [results, Tryz.results47, go_sem, p0, p1]) rfl ⟨_, rfl, rfl, bel2 HB1.out (Nat.le_refl _)⟩
    · exfalso
      obtain rfl : k = l.length := by omega
      have h1 := HLT.out
      rw [List.take_length] at h1
      have := HN.out
      omega
end Go.Proofs.YtlhceelkefgjhaaGreatDoor

namespace Go.Proofs.YtlhceelkefgjhaaGreatDoor
open Go.RowKit
theorem cutpre_a {t r : List UInt8} {n : Bool} (hn : Lib.hasPrefix t [45] = n) (hr : Lib.trimPrefix t [45] = r) (w : World) :
    Calls Tryz.prog 44 #[.string ⟨t.toArray⟩, .string ⟨#[45]⟩] w fun e w' => e = .returned (.tuple #[.string ⟨r.toArray⟩, .bool n]) ∧ w = w' := by
  refine (Tryz.strings_CutPrefix _ _ _).mono ?_
  rintro e w1 ⟨rfl, rfl⟩
  refine ⟨?_, rfl⟩
  show Ending.returned (.tuple #[.string ⟨(Lib.trimPrefix t [45]).toArray⟩, .bool (Lib.hasPrefix t [45])]) = _
  rw [hn, hr]
theorem index_b (s sep : ByteArray) (h1 : sep.size = 1) (w : World) :
    Calls Tryz.prog 79 #[.string s, .string sep] w fun e w' => e = .returned (.int .i64 (Lib.index s.data.toList sep.data.toList)) ∧ w' = w := by
  obtain ⟨c, rfl⟩ : ∃ c, sep = ⟨#[c]⟩ := by
    cases sep with
    | mk d =>
      obtain ⟨c, hc⟩ := Array.size_eq_one_iff.1 (show d.size = 1 from h1)
      exact ⟨c, by rw [hc]⟩
  show Calls _ _ _ w fun e w' => e = .returned (.int .i64 (Lib.index s.data.toList [c])) ∧ w' = w
  rw [Lib.index_one]
  exact Any.stringslite_Index_one { Tryz.lays145 with } s c w
set_option maxHeartbeats 2000000 in
set_option maxRecDepth 100000 in
theorem slcut_b (s sep : ByteArray) (h1 : sep.size = 1) (hs : s.size ≤ 281474976710656) (w : World) :
    Calls Tryz.prog 67 #[.string s, .string sep] w fun e w' => e = .returned (.tuple #[.string ⟨(Lib.cut s.data.toList sep.data.toList).1.toArray⟩, .string ⟨(Lib.cut s.data.toList sep.data.toList).2.1.toArray⟩, .bool (Lib.cut s.data.toList sep.data.toList).2.2]) ∧ ∃ n, w' = w.drewN n := by
  have H1 := Lib.hid h1
  clear h1
  rcases Lib.indexB_cases s sep with hix | ⟨i, hix, hroom⟩
  · obtain ⟨e1, e2, e3⟩ := Lib.cutB_miss s sep hix
    rw [e1, e2, e3]
    have HI := Lib.hid hix
    clear e1 e2 e3 hix
    go_enter Tryz.func67, Tryz.ntmps67
    go_wp2_with fail
    refine (index_b s sep H1.out _).mono ?_
    rintro e w' ⟨rfl, rfl⟩
    rw [show Lib.index s.data.toList sep.data.toList = _ from HI.out]
    go_wp2
    go_ret3
    exact ⟨rfl, 0, rfl⟩
  · obtain ⟨e1, e2, e3⟩ := Lib.cutB_hit s sep i hix
    rw [e1, e2, e3]
    have HI := Lib.hid hix
    have c1 : (0 : Int) ≤ ↑i := by omega
    have c2 : (↑i : Int) ≤ ↑s.size := by omega
    have c3 : (0 : Int) ≤ ↑i + ↑sep.size := by omega
    have c4 : (↑i + ↑sep.size : Int) ≤ ↑s.size := by omega
    have ew : IntKind.i64.wrap ((i : Int) + (sep.size : Int)) = (i : Int) + (sep.size : Int) := IntWalk.i64_in _ (by omega)
    have mixed : Tryz.prog.follows .mixedOrders = true := by kernel_rfl
    clear e1 e2 e3 hix
    go_enter Tryz.func67, Tryz.ntmps67
    go_wp2_with fail
    refine (index_b s sep H1.out _).mono ?_
    rintro e w' ⟨rfl, rfl⟩
    rw [show Lib.index s.data.toList sep.data.toList = _ from HI.out]
    go_wp2_with fail
    go_region_o
    go_wp2
    go_ret3
    exact ⟨rfl, 1, rfl⟩
theorem cutS_b (s sep : ByteArray) (h1 : sep.size = 1) (hs : s.size ≤ 281474976710656) (w : World) :
    Calls Tryz.prog 45 #[.string s, .string sep] w fun e w' => e = .returned (.tuple #[.string ⟨(Lib.cut s.data.toList sep.data.toList).1.toArray⟩, .string ⟨(Lib.cut s.data.toList sep.data.toList).2.1.toArray⟩, .bool (Lib.cut s.data.toList sep.data.toList).2.2]) ∧ ∃ n, w' = w.drewN n := by
  have H1 := Lib.hid h1
  clear h1
  go_enter Tryz.func45, Tryz.ntmps45
  go_wp2_with fail
  refine (slcut_b s sep H1.out hs _).mono ?_
  rintro e w' ⟨rfl, n, rfl⟩
  go_wp2
  go_ret3
  exact ⟨rfl, n, rfl⟩
theorem cut_a {r W P : List UInt8} {pt : Bool} (hc : Lib.cut r [46] = (W, P, pt)) (hl : r.length ≤ 281474976710656) (w : World) :
    Calls Tryz.prog 45 #[.string ⟨r.toArray⟩, .string ⟨#[46]⟩] w fun e w' => e = .returned (.tuple #[.string ⟨W.toArray⟩, .string ⟨P.toArray⟩, .bool pt]) ∧ ∃ k, w' = w.drewN k := by
  refine (cutS_b ⟨r.toArray⟩ ⟨#[46]⟩ rfl (show r.length ≤ _ from hl) _).mono ?_
  rintro e w1 ⟨rfl, k, rfl⟩
  refine ⟨?_, k, rfl⟩
  show Ending.returned (.tuple #[.string ⟨(Lib.cut r [46]).1.toArray⟩, .string ⟨(Lib.cut r [46]).2.1.toArray⟩, .bool (Lib.cut r [46]).2.2]) = _
  rw [hc]
theorem number_over_app (W P : List UInt8) (w : World) (hb : W.length + P.length ≤ 1000) (hW : W.all isDig = true) (hP : P.all isDig = true) (hN : 1000000000000000000000000000000 ≤ numL (W ++ P)) :
    Calls Tryz.prog 47 #[.string (⟨W.toArray⟩ ++ ⟨P.toArray⟩)] w (Ret w (· = .tuple #[.agg #[.int .u64 0, .int .u64 0], .bool false])) := by
  rw [bytes_app]
  exact number_over (W ++ P) w (by rw [List.length_append]; exact hb) (by rw [List.all_append, hW, hP]; rfl) hN
set_option maxRecDepth 100000 in
set_option maxHeartbeats 1600000 in
theorem read_form1 (t r W P : List UInt8) (n pt : Bool) (w : World) (hn : Lib.hasPrefix t [45] = n) (hr : Lib.trimPrefix t [45] = r) (hl : r.length ≤ 281474976710656) (hc : Lib.cut r [46] = (W, P, pt)) (hd : digB W 30 = false) (hWl : W.length ≤ 281474976710656) :
    Calls Tryz.prog 15 #[.string ⟨t.toArray⟩] w (Ret w (· = .tuple #[.agg #[.bool false, .int .u64 0, .int .u64 0, .int .i64 0], .int .i64 2])) := by
  have hle : w.heap.size ≤ w.heap.size := Nat.le_refl _
  have V : HB w [(w.heap.size, 25, #[.bool false, .int .u64 0, .int .u64 0, .int .i64 0])] (w.alloc (.cells #[.bool false, .int .u64 0, .int .u64 0, .int .i64 0] 25)) := (HB.start (Below.refl _ w)).push _ _
  have HN := Lib.hid hn
  have HR := Lib.hid hr
  have HC := Lib.hid hc
  have HDg := Lib.hid hd
  clear hn hr hc hd
  go_enter Tryz.func15, Tryz.ntmps15
  go_wp2_with fail
  refine (cutpre_a HN.out HR.out _).mono ?_
  rintro e w1 ⟨rfl, rfl⟩
  go_wp2_with fail
  refine (cut_a HC.out hl _).mono ?_
  rintro e w1 ⟨rfl, k, rfl⟩
  go_wp2_with fail
  refine (digits_any W 30 false _ (by omega) HDg.out hWl).mono ?_
  rintro e w1 ⟨rfl, rfl⟩
  have V3 := V.below (bel_drewN (Below.refl _ _) k)
  obtain ⟨lq, q0, q1, q2, q3⟩ := HB.dec (t := 25) (g := w.heap.size) (a := .bool false) (b := .int .u64 0) (c := .int .u64 0) (d := .int .i64 0) V3 (by simp)
  have Bz := HB.blk (g := w.heap.size) (t := 25) (cs := #[.bool false, .int .u64 0, .int .u64 0, .int .i64 0]) V3 (by simp)
  have fz0 := Bz.frozen 0
  have fz1 := Bz.frozen 1
  have fz2 := Bz.frozen 2
  have fz3 := Bz.frozen 3
  have HB1 := Lib.hid V3.1
  clear Bz V3 V
  go_wp2
  exact bodyPost_ret (v := .tuple #[.agg #[.bool false, .int .u64 0, .int .u64 0, .int .i64 0], .int .i64 2]) (by simp [results, Tryz.results15, go_sem, q0, q1, q2, q3]) rfl ⟨_, rfl, rfl, bel4 HB1.out hle⟩
set_option maxRecDepth 100000 in
set_option maxHeartbeats 1600000 in
theorem read_form2 (t r W P : List UInt8) (n : Bool) (w : World) (hn : Lib.hasPrefix t [45] = n) (hr : Lib.trimPrefix t [45] = r) (hl : r.length ≤ 281474976710656) (hc : Lib.cut r [46] = (W, P, true)) (hd : digB W 30 = true) (hd2 : digB P 9 = false) (hWl : W.length ≤ 281474976710656) (hPl : P.length ≤ 281474976710656) :
    Calls Tryz.prog 15 #[.string ⟨t.toArray⟩] w (Ret w (· = .tuple #[.agg #[.bool false, .int .u64 0, .int .u64 0, .int .i64 0], .int .i64 2])) := by
  have hle : w.heap.size ≤ w.heap.size := Nat.le_refl _
  have V : HB w [(w.heap.size, 25, #[.bool false, .int .u64 0, .int .u64 0, .int .i64 0])] (w.alloc (.cells #[.bool false, .int .u64 0, .int .u64 0, .int .i64 0] 25)) := (HB.start (Below.refl _ w)).push _ _
  have HN := Lib.hid hn
  have HR := Lib.hid hr
  have HC := Lib.hid hc
  have HDg := Lib.hid hd
  have HDh := Lib.hid hd2
  clear hn hr hc hd hd2
  go_enter Tryz.func15, Tryz.ntmps15
  go_wp2_with fail
  refine (cutpre_a HN.out HR.out _).mono ?_
  rintro e w1 ⟨rfl, rfl⟩
  go_wp2_with fail
  refine (cut_a HC.out hl _).mono ?_
  rintro e w1 ⟨rfl, k, rfl⟩
  go_wp2_with fail
  refine (digits_any W 30 true _ (by omega) HDg.out hWl).mono ?_
  rintro e w1 ⟨rfl, rfl⟩
  go_wp2_with fail
  refine (digits_any P 9 false _ (by omega) HDh.out hPl).mono ?_
  rintro e w1 ⟨rfl, rfl⟩
  have V3 := V.below (bel_drewN (Below.refl _ _) k)
  obtain ⟨lq, q0, q1, q2, q3⟩ := HB.dec (t := 25) (g := w.heap.size) (a := .bool false) (b := .int .u64 0) (c := .int .u64 0) (d := .int .i64 0) V3 (by simp)
  have Bz := HB.blk (g := w.heap.size) (t := 25) (cs := #[.bool false, .int .u64 0, .int .u64 0, .int .i64 0]) V3 (by simp)
  have fz0 := Bz.frozen 0
  have fz1 := Bz.frozen 1
  have fz2 := Bz.frozen 2
  have fz3 := Bz.frozen 3
  have HB1 := Lib.hid V3.1
  clear Bz V3 V
  go_wp2
  exact bodyPost_ret (v := .tuple #[.agg #[.bool false, .int .u64 0, .int .u64 0, .int .i64 0], .int .i64 2]) (by simp [results, Tryz.results15, go_sem, q0, q1, q2, q3]) rfl ⟨_, rfl, rfl, bel4 HB1.out hle⟩
/-- What is behind the point is none, or up to nine digits. -/
def partOk (P : List UInt8) (pt : Bool) : Prop := (pt = false ∧ P = []) ∨ (pt = true ∧ digB P 9 = true)
theorem digB_yes {l : List UInt8} {most : Int} (h : digB l most = true) : 1 ≤ l.length ∧ (l.length : Int) ≤ most ∧ l.all isDig = true := by
  unfold digB at h
  simp at h
  refine ⟨h.1.1, h.1.2, ?_⟩
  simpa using h.2
set_option maxRecDepth 100000 in
set_option maxHeartbeats 1600000 in
theorem read_over (t r W P : List UInt8) (n pt : Bool) (w : World) (hn : Lib.hasPrefix t [45] = n) (hr : Lib.trimPrefix t [45] = r) (hl : r.length ≤ 281474976710656) (hc : Lib.cut r [46] = (W, P, pt)) (hd : digB W 30 = true) (hp : partOk P pt) (hN : 1000000000000000000000000000000 ≤ numL (W ++ P)) :
    Calls Tryz.prog 15 #[.string ⟨t.toArray⟩] w (Ret w (· = .tuple #[.agg #[.bool false, .int .u64 0, .int .u64 0, .int .i64 0], .int .i64 3])) := by
  have hle : w.heap.size ≤ w.heap.size := Nat.le_refl _
  have V : HB w [(w.heap.size, 25, #[.bool false, .int .u64 0, .int .u64 0, .int .i64 0])] (w.alloc (.cells #[.bool false, .int .u64 0, .int .u64 0, .int .i64 0] 25)) := (HB.start (Below.refl _ w)).push _ _
  obtain ⟨w1', w2', w3'⟩ := digB_yes hd
  have hP : (P.length : Int) ≤ 9 ∧ P.all isDig = true := by
    rcases hp with ⟨_, rfl⟩ | ⟨_, h⟩
    · simp
    · exact (digB_yes h).2
  have HN := Lib.hid hn
  have HR := Lib.hid hr
  have HC := Lib.hid hc
  have HDg := Lib.hid hd
  have HW3 := Lib.hid (And.intro w3' hP.2)
  have hPl := hP.1
  have HNo := Lib.hid hN
  have hlen : ¬ 9223372036854775807 < W.length + P.length := by omega
  have hWP : W.length + P.length ≤ 1000 := by omega
  have hWl : W.length ≤ 281474976710656 := by omega
  have hPl2 : P.length ≤ 281474976710656 := by omega
  clear hn hr hc hd w3' hP hN
  rcases hp with ⟨rfl, hPe⟩ | ⟨rfl, hPd⟩
  · have HPe := Lib.hid hPe
    clear hPe
    go_enter Tryz.func15, Tryz.ntmps15
    go_wp2_with fail
    refine (cutpre_a HN.out HR.out _).mono ?_
    rintro e w1 ⟨rfl, rfl⟩
    go_wp2_with fail
    refine (cut_a HC.out hl _).mono ?_
    rintro e w1 ⟨rfl, k, rfl⟩
    go_wp2_with fail
    refine (digits_any W 30 true _ (by omega) HDg.out hWl).mono ?_
    rintro e w1 ⟨rfl, rfl⟩
    go_wp2_with fail
    refine (number_over_app W P _ hWP HW3.out.1 HW3.out.2 HNo.out).mono ?_
    rintro e w1 ⟨_, rfl, rfl, hb1⟩
    have V3 := (V.below (Below.trans (bel_drewN (Below.refl _ _) k) hb1)).alloc (.cells #[.int .u64 0, .int .u64 0] 23)
    obtain ⟨lq, q0, q1, q2, q3⟩ := HB.dec (t := 25) (g := w.heap.size) (a := .bool false) (b := .int .u64 0) (c := .int .u64 0) (d := .int .i64 0) V3 (by simp)
    have Bz := HB.blk (g := w.heap.size) (t := 25) (cs := #[.bool false, .int .u64 0, .int .u64 0, .int .i64 0]) V3 (by simp)
    have fz0 := Bz.frozen 0
    have fz1 := Bz.frozen 1
    have fz2 := Bz.frozen 2
    have fz3 := Bz.frozen 3
    have HB1 := Lib.hid V3.1
    clear Bz V3 V hb1
    go_wp2
    exact bodyPost_ret (v := .tuple #[.agg #[.bool false, .int .u64 0, .int .u64 0, .int .i64 0], .int .i64 3]) (by simp [results, Tryz.results15, go_sem, q0, q1, q2, q3]) rfl ⟨_, rfl, rfl, bel4 HB1.out hle⟩
  · have HPd := Lib.hid hPd
    clear hPd
    go_enter Tryz.func15, Tryz.ntmps15
    go_wp2_with fail
    refine (cutpre_a HN.out HR.out _).mono ?_
    rintro e w1 ⟨rfl, rfl⟩
    go_wp2_with fail
    refine (cut_a HC.out hl _).mono ?_
    rintro e w1 ⟨rfl, k, rfl⟩
    go_wp2_with fail
    refine (digits_any W 30 true _ (by omega) HDg.out hWl).mono ?_
    rintro e w1 ⟨rfl, rfl⟩
    go_wp2_with fail
    refine (digits_any P 9 true _ (by omega) HPd.out hPl2).mono ?_
    rintro e w1 ⟨rfl, rfl⟩
    go_wp2_with fail
    refine (number_over_app W P _ hWP HW3.out.1 HW3.out.2 HNo.out).mono ?_
    rintro e w1 ⟨_, rfl, rfl, hb1⟩
    have V3 := (V.below (Below.trans (bel_drewN (Below.refl _ _) k) hb1)).alloc (.cells #[.int .u64 0, .int .u64 0] 23)
    obtain ⟨lq, q0, q1, q2, q3⟩ := HB.dec (t := 25) (g := w.heap.size) (a := .bool false) (b := .int .u64 0) (c := .int .u64 0) (d := .int .i64 0) V3 (by simp)
    have Bz := HB.blk (g := w.heap.size) (t := 25) (cs := #[.bool false, .int .u64 0, .int .u64 0, .int .i64 0]) V3 (by simp)
    have fz0 := Bz.frozen 0
    have fz1 := Bz.frozen 1
    have fz2 := Bz.frozen 2
    have fz3 := Bz.frozen 3
    have HB1 := Lib.hid V3.1
    clear Bz V3 V hb1
    go_wp2
    exact bodyPost_ret (v := .tuple #[.agg #[.bool false, .int .u64 0, .int .u64 0, .int .i64 0], .int .i64 3]) (by simp [results, Tryz.results15, go_sem, q0, q1, q2, q3]) rfl ⟨_, rfl, rfl, bel4 HB1.out hle⟩
end Go.Proofs.YtlhceelkefgjhaaGreatDoor

namespace Go.Proofs.YtlhceelkefgjhaaGreatDoor
open Go.RowKit
set_option maxRecDepth 100000 in
set_option maxHeartbeats 1600000 in
theorem read_zero (t r W P : List UInt8) (pt : Bool) (w : World) (hn : Lib.hasPrefix t [45] = true) (hr : Lib.trimPrefix t [45] = r) (hl : r.length ≤ 281474976710656) (hc : Lib.cut r [46] = (W, P, pt)) (hd : digB W 30 = true) (hp : partOk P pt) (hN : numL (W ++ P) = 0) :
    Calls Tryz.prog 15 #[.string ⟨t.toArray⟩] w (Ret w (· = .tuple #[.agg #[.bool false, .int .u64 0, .int .u64 0, .int .i64 0], .int .i64 2])) := by
  have hle : w.heap.size ≤ w.heap.size := Nat.le_refl _
  have V : HB w [(w.heap.size, 25, #[.bool false, .int .u64 0, .int .u64 0, .int .i64 0])] (w.alloc (.cells #[.bool false, .int .u64 0, .int .u64 0, .int .i64 0] 25)) := (HB.start (Below.refl _ w)).push _ _
  obtain ⟨w1', w2', w3'⟩ := digB_yes hd
  have hP : (P.length : Int) ≤ 9 ∧ P.all isDig = true := by
    rcases hp with ⟨_, rfl⟩ | ⟨_, h⟩
    · simp
    · exact (digB_yes h).2
  have HN := Lib.hid hn
  have HR := Lib.hid hr
  have HC := Lib.hid hc
  have HDg := Lib.hid hd
  have HW3 := Lib.hid (And.intro w3' hP.2)
  have hPl := hP.1
  have HNo := Lib.hid hN
  have hlen : ¬ 9223372036854775807 < W.length + P.length := by omega
  have hWP : W.length + P.length ≤ 1000 := by omega
  have hWl : W.length ≤ 281474976710656 := by omega
  have hPl2 : P.length ≤ 281474976710656 := by omega
  clear hn hr hc hd w3' hP hN
  rcases hp with ⟨rfl, hPe⟩ | ⟨rfl, hPd⟩
  · clear hPe
    go_enter Tryz.func15, Tryz.ntmps15
    go_wp2_with fail
    refine (cutpre_a HN.out HR.out _).mono ?_
    rintro e w1 ⟨rfl, rfl⟩
    go_wp2_with fail
    refine (cut_a HC.out hl _).mono ?_
    rintro e w1 ⟨rfl, k, rfl⟩
    go_wp2_with fail
    refine (digits_any W 30 true _ (by omega) HDg.out hWl).mono ?_
    rintro e w1 ⟨rfl, rfl⟩
    go_wp2_with fail
    refine (number_app W P _ hWP HW3.out.1 HW3.out.2 (by rw [HNo.out]; decide)).mono ?_
    rintro e w1 ⟨_, ⟨x, y, HX, rfl⟩, rfl, hb1⟩
    have V1 := V.below (Below.trans (bel_drewN (Below.refl _ _) k) hb1)
    obtain ⟨hx, hy, ex⟩ := HX
    have hβ : eqW2 x y 0 0 = true := by
      rw [eqW2_0 hx hy, ex, HNo.out]
      rfl
    clear ex
    have V1c := V1.alloc (.cells #[.int .u64 x, .int .u64 y] 23)
    go_wp2_with fail
    go_region_held3 (fun w' => w'.cell? ⟨w1.heap.size, 0, none⟩ = some (.int .u64 x) ∧ w'.cell? ⟨w1.heap.size, 1, none⟩ = some (.int .u64 y)) (simp [go_sem]) (first | (go_at_call 48; refine (of_x _ _).mono ?_; rintro e wx ⟨rfl, rfl⟩))
    have V3 := (V1c.alloc (.cells #[.int .u64 0, .int .u64 0] 23)).drew
    clear V1c
    revert V3
    generalize ((w1.alloc (.cells #[.int .u64 x, .int .u64 y] 23)).alloc (.cells #[.int .u64 0, .int .u64 0] 23)).drew = wz
    intro V3
    obtain ⟨lq, q0, q1, q2, q3⟩ := HB.dec (t := 25) (g := w.heap.size) (a := .bool false) (b := .int .u64 0) (c := .int .u64 0) (d := .int .i64 0) V3 (by simp)
    have Bz := HB.blk (g := w.heap.size) (t := 25) (cs := #[.bool false, .int .u64 0, .int .u64 0, .int .i64 0]) V3 (by simp)
    have fz0 := Bz.frozen 0
    have fz1 := Bz.frozen 1
    have fz2 := Bz.frozen 2
    have fz3 := Bz.frozen 3
    have HB1 := Lib.hid V3.1
    clear Bz V3 V V1 hb1
    go_wp2
    exact bodyPost_ret (v := .tuple #[.agg #[.bool false, .int .u64 0, .int .u64 0, .int .i64 0], .int .i64 2]) (by simp [results, Tryz.results15, go_sem, q0, q1, q2, q3]) rfl ⟨_, rfl, rfl, bel4 HB1.out hle⟩
  · have HPd := Lib.hid hPd
    clear hPd
    go_enter Tryz.func15, Tryz.ntmps15
    go_wp2_with fail
    refine (cutpre_a HN.out HR.out _).mono ?_
    rintro e w1 ⟨rfl, rfl⟩
    go_wp2_with fail
    refine (cut_a HC.out hl _).mono ?_
    rintro e w1 ⟨rfl, k, rfl⟩
    go_wp2_with fail
    refine (digits_any W 30 true _ (by omega) HDg.out hWl).mono ?_
    rintro e w1 ⟨rfl, rfl⟩
    go_wp2_with fail
    refine (digits_any P 9 true _ (by omega) HPd.out hPl2).mono ?_
    rintro e w1 ⟨rfl, rfl⟩
    go_wp2_with fail
    refine (number_app W P _ hWP HW3.out.1 HW3.out.2 (by rw [HNo.out]; decide)).mono ?_
    rintro e w1 ⟨_, ⟨x, y, HX, rfl⟩, rfl, hb1⟩
    have V1 := V.below (Below.trans (bel_drewN (Below.refl _ _) k) hb1)
    obtain ⟨hx, hy, ex⟩ := HX
    have hβ : eqW2 x y 0 0 = true := by
      rw [eqW2_0 hx hy, ex, HNo.out]
      rfl
    clear ex
    have V1c := V1.alloc (.cells #[.int .u64 x, .int .u64 y] 23)
    go_wp2_with fail
    go_region_held3 (fun w' => w'.cell? ⟨w1.heap.size, 0, none⟩ = some (.int .u64 x) ∧ w'.cell? ⟨w1.heap.size, 1, none⟩ = some (.int .u64 y)) (simp [go_sem]) (first | (go_at_call 48; refine (of_x _ _).mono ?_; rintro e wx ⟨rfl, rfl⟩))
    have V3 := (V1c.alloc (.cells #[.int .u64 0, .int .u64 0] 23)).drew
    clear V1c
    revert V3
    generalize ((w1.alloc (.cells #[.int .u64 x, .int .u64 y] 23)).alloc (.cells #[.int .u64 0, .int .u64 0] 23)).drew = wz
    intro V3
    obtain ⟨lq, q0, q1, q2, q3⟩ := HB.dec (t := 25) (g := w.heap.size) (a := .bool false) (b := .int .u64 0) (c := .int .u64 0) (d := .int .i64 0) V3 (by simp)
    have Bz := HB.blk (g := w.heap.size) (t := 25) (cs := #[.bool false, .int .u64 0, .int .u64 0, .int .i64 0]) V3 (by simp)
    have fz0 := Bz.frozen 0
    have fz1 := Bz.frozen 1
    have fz2 := Bz.frozen 2
    have fz3 := Bz.frozen 3
    have HB1 := Lib.hid V3.1
    clear Bz V3 V V1 hb1
    go_wp2
    exact bodyPost_ret (v := .tuple #[.agg #[.bool false, .int .u64 0, .int .u64 0, .int .i64 0], .int .i64 2]) (by simp [results, Tryz.results15, go_sem, q0, q1, q2, q3]) rfl ⟨_, rfl, rfl, bel4 HB1.out hle⟩
end Go.Proofs.YtlhceelkefgjhaaGreatDoor

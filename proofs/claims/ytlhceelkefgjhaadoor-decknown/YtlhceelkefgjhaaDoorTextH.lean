/- Package dec: Print at right decimals. -/
/- Package dec: Read where it answers OK. -/
/- Package dec: what Print prints is what Read reads: the lists of bytes alone. -/
/- pyxlaw2: known. -/
import Derived.Test.YtlhceelkefgjhaaDoorTextD
namespace Go.Proofs.YtlhceelkefgjhaaDoor
open Go.RowKit
theorem figL_ge (N : Nat) (m : Int) : m ≤ (figL N m).length := by
  unfold figL; rw [padL_length]; omega
theorem figL_le (N : Nat) (m : Int) (hN : N < 1000000000000000000000000000000) (hm : m ≤ 100) : (figL N m).length ≤ 200 := by
  have h1 : N / 1000000000000000 < 18446744073709551616 := by omega
  have h2 : N % 1000000000000000 < 18446744073709551616 := by omega
  have l1 : (Lib.decDigits (N / 1000000000000000)).length ≤ 20 := by rw [Lib.decDigits_length]; exact nDig_le _ h1
  have l2 : (Lib.decDigits (N % 1000000000000000)).length ≤ 20 := by rw [Lib.decDigits_length]; exact nDig_le _ h2
  have l3 := trimLeftB_le (Lib.decDigits (N / 1000000000000000) ++ padL (Lib.decDigits (N % 1000000000000000)) 15) 48
  rw [List.length_append, padL_length] at l3
  unfold figL
  rw [padL_length]
  omega
theorem ext_l (L : List UInt8) (i j : Nat) : (⟨L.toArray⟩ : ByteArray).extract i j = ⟨((L.take j).drop i).toArray⟩ := by
  apply ByteArray.ext
  simp [List.drop_take]
theorem dot_join (L : List UInt8) (a : Nat) : (⟨L.toArray⟩ : ByteArray).extract 0 a ++ ⟨#[46]⟩ ++ (⟨L.toArray⟩ : ByteArray).extract a L.length = ⟨(L.take a ++ [46] ++ L.drop a).toArray⟩ := by
  rw [ext_l, ext_l, List.take_length, List.drop_zero, ← bytes_app, ← bytes_app]
def dotL (L : List UInt8) (s : Int) : List UInt8 := if s = 0 then L else L.take (L.length - s.toNat) ++ [46] ++ L.drop (L.length - s.toNat)
def printL (n : Bool) (N : Nat) (s : Int) : List UInt8 := if n then 45 :: dotL (figL N (s + 1)) s else dotL (figL N (s + 1)) s
theorem minus_l (L : List UInt8) : (⟨#[45]⟩ ++ ⟨L.toArray⟩ : ByteArray) = ⟨(45 :: L).toArray⟩ := bytes_app [45] L
set_option maxRecDepth 100000 in
set_option maxHeartbeats 1600000 in
theorem print_c (n : Bool) (c0 c1 s : Int) (w : World) (h0 : U64 c0) (h1 : U64 c1) (hr : RightD n c0 c1 s) (N : Nat) (hN : v2 c0 c1 = N) (htab : Lib.TabIs Tryd.prog w "internal/strconv.uint64pow10" .u64 Lib.pow10Tab) :
    Calls Tryd.prog 11 #[.agg #[.bool n, .int .u64 c0, .int .u64 c1, .int .i64 s]] w (Ret w (· = .string ⟨(printL n N s).toArray⟩)) := by
  have hs : 0 ≤ s ∧ s ≤ 9 := ⟨hr.2.1, hr.2.2.1⟩
  have HR := Lib.hid hr
  have HN := Lib.hid (And.intro hN (hN ▸ hr.1))
  have HT := Lib.hid htab
  clear hr hN htab
  have W : HB w [(w.heap.size, 26, #[.bool n, .int .u64 c0, .int .u64 c1, .int .i64 s])] (w.alloc (.cells #[.bool n, .int .u64 c0, .int .u64 c1, .int .i64 s] 26)) := (HB.start (Below.refl _ w)).push _ _
  go_enter Tryd.func11, Tryd.ntmps11
  go_wp2_with fail
  have RC := right_c n c0 c1 s (w.alloc (.cells #[.bool n, .int .u64 c0, .int .u64 c1, .int .i64 s] 26)) h0 h1
  rw [decide_eq_true HR.out] at RC
  refine RC.mono ?_
  clear RC
  rintro e w1 ⟨_, rfl, rfl, hb1⟩
  have W1 := W.below hb1
  obtain ⟨g1, k0, k1, k2, k3⟩ := HB.dec (t := 26) (g := w.heap.size) (a := .bool n) (b := .int .u64 c0) (c := .int .u64 c1) (d := .int .i64 s) W1 (by simp)
  have T1 := tabIs_below HT.out W1.bel
  have HT1 := Lib.hid T1
  clear T1
  have sw : wrap64 (s + 1) = s + 1 := by unfold wrap64; omega
  go_wp2_with fail
  refine (figures_c c0 c1 (s + 1) w1 h0 h1 N HN.out.1 HN.out.2 (by omega) (by omega) HT1.out).mono ?_
  rintro e w2 ⟨_, rfl, rfl, hb2⟩
  have W2 := W1.below hb2
  obtain ⟨g2, p0, p1, p2, p3⟩ := HB.dec (t := 26) (g := w.heap.size) (a := .bool n) (b := .int .u64 c0) (c := .int .u64 c1) (d := .int .i64 s) W2 (by simp)
  have HB2 := Lib.hid W2.bel
  have q1 := figL_ge N (s + 1)
  have q2 := figL_le N (s + 1) HN.out.2 (by omega)
  clear W W1 W2 hb1 hb2 k0 k1 k2 k3 HT HT1 HN HR sw
  have EP : printL n N s = if n then 45 :: dotL (figL N (s + 1)) s else dotL (figL N (s + 1)) s := rfl
  replace EP := Lib.hid EP
  generalize figL N (s + 1) = L at *
  by_cases hs0 : s = 0
  · subst hs0
    cases n
    · go_wp2
      go_ret
      exact ⟨_, rfl, congrArg (fun l : List UInt8 => Ending.returned (.string ⟨l.toArray⟩)) (by rw [EP.out]; rfl), HB2.out⟩
    · go_wp2
      go_ret
      exact ⟨_, rfl, congrArg (fun x : ByteArray => Ending.returned (.string x)) (by rw [EP.out, minus_l]; rfl), HB2.out⟩
  · have hs1 : 0 < s := by omega
    obtain ⟨a, ha⟩ : ∃ a : Nat, (L.length : Int) - s = (a : Int) := ⟨((L.length : Int) - s).toNat, by omega⟩
    have ha1 : a ≤ L.length := by omega
    have ha2 : L.length - s.toNat = a := by omega
    have ED : dotL L s = L.take a ++ [46] ++ L.drop a := by unfold dotL; rw [if_neg hs0, ha2]
    have lM : (L.take a ++ [46] ++ L.drop a).length ≤ 201 := by simp; omega
    rw [ED] at EP
    clear ED
    go_wp2
    go_quiet (fail)
    rw [dot_join]
    generalize L.take a ++ [46] ++ L.drop a = M at *
    cases n
    · go_wp2
      go_ret
      exact ⟨_, rfl, congrArg (fun l : List UInt8 => Ending.returned (.string ⟨l.toArray⟩)) (by rw [EP.out]; rfl), bel_drewN HB2.out _⟩
    · go_wp2
      go_ret
      exact ⟨_, rfl, congrArg (fun x : ByteArray => Ending.returned (.string x)) (by rw [EP.out, minus_l]; rfl), bel_drewN HB2.out _⟩
end Go.Proofs.YtlhceelkefgjhaaDoor

namespace Go.Proofs.YtlhceelkefgjhaaDoor
open Go.RowKit
/-- The text: a minus or none, the whole digits, a point and its digits or none. -/
def tailL (W P : List UInt8) : List UInt8 := if P = [] then W else W ++ 46 :: P
def readL (n : Bool) (W P : List UInt8) : List UInt8 := if n then 45 :: tailL W P else tailL W P
theorem dig_ne {c : UInt8} (h : isDig c = true) : c ≠ 45 ∧ c ≠ 46 := by
  unfold isDig at h
  simp at h
  constructor <;> (rintro rfl; simp at h)
theorem index_dot : ∀ (W R : List UInt8), W.all isDig = true → Lib.index (W ++ 46 :: R) [46] = W.length
  | [], R, _ => by simp [Lib.index, List.isPrefixOf]
  | c :: W, R, h => by
    simp only [List.all_cons, Bool.and_eq_true] at h
    have ih := index_dot W R h.2
    have hc := (dig_ne h.1).2
    simp [Lib.index, List.isPrefixOf, ih, Ne.symm hc]
theorem index_none : ∀ (W : List UInt8), W.all isDig = true → Lib.index W [46] = -1
  | [], _ => by simp [Lib.index]
  | c :: W, h => by
    simp only [List.all_cons, Bool.and_eq_true] at h
    have ih := index_none W h.2
    have hc := (dig_ne h.1).2
    simp [Lib.index, List.isPrefixOf, ih, Ne.symm hc]
theorem cut_tail {W P : List UInt8} (hW : W.all isDig = true) : Lib.cut (tailL W P) [46] = (W, P, !P.isEmpty) := by
  unfold tailL Lib.cut
  by_cases hP : P = []
  · subst hP
    simp [index_none W hW]
  · rw [if_neg hP, index_dot W P hW]
    simp [hP, Int.natCast_nonneg]
theorem pre_read {n : Bool} {W P : List UInt8} (hW : W.all isDig = true) (hl : 1 ≤ W.length) : Lib.hasPrefix (readL n W P) [45] = n ∧ Lib.trimPrefix (readL n W P) [45] = tailL W P := by
  have h : Lib.hasPrefix (readL n W P) [45] = n := by
    cases n
    · cases W with
      | nil => simp at hl
      | cons c W =>
        simp only [List.all_cons, Bool.and_eq_true] at hW
        have hc := (dig_ne hW.1).1
        unfold Lib.hasPrefix readL tailL
        by_cases hP : P = [] <;> simp [hP, List.isPrefixOf, Ne.symm hc]
    · simp [Lib.hasPrefix, readL, List.isPrefixOf]
  refine ⟨h, ?_⟩
  unfold Lib.trimPrefix
  rw [h]
  cases n <;> simp [readL]
theorem tail_len {W P : List UInt8} (hl : W.length ≤ 30) (hp : P.length ≤ 9) : (tailL W P).length ≤ 40 := by
  unfold tailL; split
  · omega
  · simp; omega
theorem cell_keep {w wx : World} {a : Addr} {v : Value} (hb : Below w.heap.size w wx) (h : w.cell? a = some v) : wx.cell? a = some v := (hb.cell (World.block_lt_of_cell? _ _ h)).trans h
theorem cutpre_c {n : Bool} {W P : List UInt8} (hW : W.all isDig = true) (hl : 1 ≤ W.length) (w : World) :
    Calls Tryd.prog 16 #[.string ⟨(readL n W P).toArray⟩, .string ⟨#[45]⟩] w fun e w' => e = .returned (.tuple #[.string ⟨(tailL W P).toArray⟩, .bool n]) ∧ w = w' := by
  obtain ⟨e1, e2⟩ := pre_read (n := n) (P := P) hW hl
  refine (Tryd.strings_CutPrefix _ _ _).mono ?_
  rintro e w1 ⟨rfl, rfl⟩
  refine ⟨?_, rfl⟩
  show Ending.returned (.tuple #[.string ⟨(Lib.trimPrefix (readL n W P) [45]).toArray⟩, .bool (Lib.hasPrefix (readL n W P) [45])]) = _
  rw [e1, e2]
theorem cut_c {W P : List UInt8} (hW : W.all isDig = true) (tl : (tailL W P).length ≤ 100) (m : Int) (w : World) (hm : w.cell? ⟨0, 0, none⟩ = some (.int .i64 m)) :
    Calls Tryd.prog 17 #[.string ⟨(tailL W P).toArray⟩, .string ⟨#[46]⟩] w fun e w' => e = .returned (.tuple #[.string ⟨W.toArray⟩, .string ⟨P.toArray⟩, .bool (!P.isEmpty)]) ∧ ∃ k, w' = w.drewN k := by
  refine (Tryd.strings_Cut _ _ m _ (by show (tailL W P).length < _; omega) hm).mono ?_
  rintro e w1 ⟨rfl, k, rfl⟩
  refine ⟨?_, k, rfl⟩
  show Ending.returned (.tuple #[.string ⟨(Lib.cut (tailL W P) [46]).1.toArray⟩, .string ⟨(Lib.cut (tailL W P) [46]).2.1.toArray⟩, .bool (Lib.cut (tailL W P) [46]).2.2]) = _
  rw [cut_tail hW]
theorem number_app (W P : List UInt8) (w : World) (hb : W.length + P.length ≤ 1000) (hW : W.all isDig = true) (hP : P.all isDig = true) (hN : numL (W ++ P) < 1000000000000000000000000000000) :
    Calls Tryd.prog 19 #[.string (⟨W.toArray⟩ ++ ⟨P.toArray⟩)] w (Ret w (IsUp (numL (W ++ P)))) := by
  rw [bytes_app]
  exact number_ok _ w (by simp; omega) (by rw [List.all_append, hW, hP]; rfl) hN
set_option maxRecDepth 100000 in
set_option maxHeartbeats 1600000 in
theorem read_c (n : Bool) (W P : List UInt8) (m : Int) (w : World) (hW : 1 ≤ W.length) (hW2 : W.length ≤ 30) (hWd : W.all isDig = true) (hP : P.length ≤ 9) (hPd : P.all isDig = true) (hN : numL (W ++ P) < 1000000000000000000000000000000) (hz : n = true → numL (W ++ P) ≠ 0) (hm : w.cell? ⟨0, 0, none⟩ = some (.int .i64 m)) :
    Calls Tryd.prog 4 #[.string ⟨(readL n W P).toArray⟩] w (Ret w (IsDecE (zOf n (numL (W ++ P))) P.length 0)) := by
  have hle : w.heap.size ≤ w.heap.size := Nat.le_refl _
  have tl := tail_len hW2 hP
  have HN := Lib.hid (And.intro hN hz)
  have HW := Lib.hid (And.intro hWd hPd)
  have V : HB w [(w.heap.size, 26, #[.bool false, .int .u64 0, .int .u64 0, .int .i64 0])] (w.alloc (.cells #[.bool false, .int .u64 0, .int .u64 0, .int .i64 0] 26)) := (HB.start (Below.refl _ w)).push _ _
  clear hN hz hWd hPd
  go_enter Tryd.func4, Tryd.ntmps4
  go_wp2_with fail
  refine (cutpre_c HW.out.1 hW _).mono ?_
  rintro e w1 ⟨rfl, rfl⟩
  go_wp2_with fail
  refine (cut_c HW.out.1 (by omega) m _ ?_).mono ?_
  · exact cell_keep V.bel hm
  rintro e w1 ⟨rfl, k, rfl⟩
  have hWi : (W.length : Int) ≤ 30 := by omega
  have hPi : (P.length : Int) ≤ 9 := by omega
  go_wp2_with fail
  refine (digits_yes W 30 _ hW hWi (by omega) HW.out.1).mono ?_
  rintro e w1 ⟨rfl, rfl⟩
  have hlen : ¬ 9223372036854775807 < W.length + P.length := by omega
  generalize hpe : P.isEmpty = b
  cases b
  · have hP1 : 1 ≤ P.length := by cases P with
      | nil => simp at hpe
      | cons _ _ => simp
    go_wp2_with fail
    refine (digits_yes P 9 _ hP1 hPi (by omega) HW.out.2).mono ?_
    rintro e w1 ⟨rfl, rfl⟩
    go_wp2_with fail
    refine (number_app W P _ (by omega) HW.out.1 HW.out.2 HN.out.1).mono ?_
    rintro e w1 ⟨_, ⟨x, y, HX, rfl⟩, rfl, hb1⟩
    have V1 := V.below (Below.trans (bel_drewN (Below.refl _ _) k) hb1)
    obtain ⟨hx, hy, ex⟩ := HX
    have EX := Lib.hid ex
    have HXL := Lib.hid (ex.symm ▸ HN.out.1)
    clear ex
    have V1c := V1.alloc (.cells #[.int .u64 x, .int .u64 y] 24)
    cases n
    · go_wp2_with fail
      go_quiet (fail)
      have V2 := V1c.below (bel_drewN (Below.refl _ _) nq)
      clear V1c
      go_wp2_with fail
      refine (checked_d false x y P.length _ hx hy HXL.out (by omega) hPi).mono ?_
      rintro e w2 ⟨_, ⟨m', a', b', HD, rfl⟩, rfl, hb⟩
      rw [EX.out] at HD
      have V3 := V2.below hb
      obtain ⟨lq, q0, q1, q2, q3⟩ := HB.dec (t := 26) (g := w.heap.size) (a := .bool false) (b := .int .u64 0) (c := .int .u64 0) (d := .int .i64 0) V3 (by simp)
      have Bz := HB.blk (g := w.heap.size) (t := 26) (cs := #[.bool false, .int .u64 0, .int .u64 0, .int .i64 0]) V3 (by simp)
      have fz0 := Bz.frozen 0
      have fz1 := Bz.frozen 1
      have fz2 := Bz.frozen 2
      have fz3 := Bz.frozen 3
      have HB1 := Lib.hid V3.1
      have HDh := Lib.hid HD
      clear Bz V3 V2 HD V V1 hb hb1
      go_wp2
      exact bodyPost_ret (v := .tuple #[.agg #[.bool m', .int .u64 a', .int .u64 b', .int .i64 P.length], .int .i64 0]) (by simp [results, Tryd.results4, go_sem, q0, q1, q2, q3]) rfl ⟨_, ⟨_, _, _, HDh.out, rfl⟩, rfl, bel4 HB1.out hle⟩
    · have hβ : eqW2 x y 0 0 = false := by
        rw [eqW2_0 hx hy, EX.out]
        simpa using HN.out.2 rfl
      go_wp2_with fail
      go_region_held3 (fun w' => w'.cell? ⟨w1.heap.size, 0, none⟩ = some (.int .u64 x) ∧ w'.cell? ⟨w1.heap.size, 1, none⟩ = some (.int .u64 y)) (simp [go_sem]) (first | (go_at_call 20; refine (of_x _ _).mono ?_; rintro e wx ⟨rfl, rfl⟩))
      have V2 := (V1c.alloc (.cells #[.int .u64 0, .int .u64 0] 24)).drew
      clear V1c
      go_wp2_with fail
      refine (checked_d true x y P.length _ hx hy HXL.out (by omega) hPi).mono ?_
      rintro e w2 ⟨_, ⟨m', a', b', HD, rfl⟩, rfl, hb⟩
      rw [EX.out] at HD
      have V3 := V2.below hb
      obtain ⟨lq, q0, q1, q2, q3⟩ := HB.dec (t := 26) (g := w.heap.size) (a := .bool false) (b := .int .u64 0) (c := .int .u64 0) (d := .int .i64 0) V3 (by simp)
      have Bz := HB.blk (g := w.heap.size) (t := 26) (cs := #[.bool false, .int .u64 0, .int .u64 0, .int .i64 0]) V3 (by simp)
      have fz0 := Bz.frozen 0
      have fz1 := Bz.frozen 1
      have fz2 := Bz.frozen 2
      have fz3 := Bz.frozen 3
      have HB1 := Lib.hid V3.1
      have HDh := Lib.hid HD
      clear Bz V3 V2 HD V V1 hb hb1
      go_wp2
      exact bodyPost_ret (v := .tuple #[.agg #[.bool m', .int .u64 a', .int .u64 b', .int .i64 P.length], .int .i64 0]) (by simp [results, Tryd.results4, go_sem, q0, q1, q2, q3]) rfl ⟨_, ⟨_, _, _, HDh.out, rfl⟩, rfl, bel4 HB1.out hle⟩
  · go_wp2_with fail
    refine (number_app W P _ (by omega) HW.out.1 HW.out.2 HN.out.1).mono ?_
    rintro e w1 ⟨_, ⟨x, y, HX, rfl⟩, rfl, hb1⟩
    have V1 := V.below (Below.trans (bel_drewN (Below.refl _ _) k) hb1)
    obtain ⟨hx, hy, ex⟩ := HX
    have EX := Lib.hid ex
    have HXL := Lib.hid (ex.symm ▸ HN.out.1)
    clear ex
    have V1c := V1.alloc (.cells #[.int .u64 x, .int .u64 y] 24)
    cases n
    · go_wp2_with fail
      go_quiet (fail)
      have V2 := V1c.below (bel_drewN (Below.refl _ _) nq)
      clear V1c
      go_wp2_with fail
      refine (checked_d false x y P.length _ hx hy HXL.out (by omega) hPi).mono ?_
      rintro e w2 ⟨_, ⟨m', a', b', HD, rfl⟩, rfl, hb⟩
      rw [EX.out] at HD
      have V3 := V2.below hb
      obtain ⟨lq, q0, q1, q2, q3⟩ := HB.dec (t := 26) (g := w.heap.size) (a := .bool false) (b := .int .u64 0) (c := .int .u64 0) (d := .int .i64 0) V3 (by simp)
      have Bz := HB.blk (g := w.heap.size) (t := 26) (cs := #[.bool false, .int .u64 0, .int .u64 0, .int .i64 0]) V3 (by simp)
      have fz0 := Bz.frozen 0
      have fz1 := Bz.frozen 1
      have fz2 := Bz.frozen 2
      have fz3 := Bz.frozen 3
      have HB1 := Lib.hid V3.1
      have HDh := Lib.hid HD
      clear Bz V3 V2 HD V V1 hb hb1
      go_wp2
      exact bodyPost_ret (v := .tuple #[.agg #[.bool m', .int .u64 a', .int .u64 b', .int .i64 P.length], .int .i64 0]) (by simp [results, Tryd.results4, go_sem, q0, q1, q2, q3]) rfl ⟨_, ⟨_, _, _, HDh.out, rfl⟩, rfl, bel4 HB1.out hle⟩
    · have hβ : eqW2 x y 0 0 = false := by
        rw [eqW2_0 hx hy, EX.out]
        simpa using HN.out.2 rfl
      go_wp2_with fail
      go_region_held3 (fun w' => w'.cell? ⟨w1.heap.size, 0, none⟩ = some (.int .u64 x) ∧ w'.cell? ⟨w1.heap.size, 1, none⟩ = some (.int .u64 y)) (simp [go_sem]) (first | (go_at_call 20; refine (of_x _ _).mono ?_; rintro e wx ⟨rfl, rfl⟩))
      have V2 := (V1c.alloc (.cells #[.int .u64 0, .int .u64 0] 24)).drew
      clear V1c
      go_wp2_with fail
      refine (checked_d true x y P.length _ hx hy HXL.out (by omega) hPi).mono ?_
      rintro e w2 ⟨_, ⟨m', a', b', HD, rfl⟩, rfl, hb⟩
      rw [EX.out] at HD
      have V3 := V2.below hb
      obtain ⟨lq, q0, q1, q2, q3⟩ := HB.dec (t := 26) (g := w.heap.size) (a := .bool false) (b := .int .u64 0) (c := .int .u64 0) (d := .int .i64 0) V3 (by simp)
      have Bz := HB.blk (g := w.heap.size) (t := 26) (cs := #[.bool false, .int .u64 0, .int .u64 0, .int .i64 0]) V3 (by simp)
      have fz0 := Bz.frozen 0
      have fz1 := Bz.frozen 1
      have fz2 := Bz.frozen 2
      have fz3 := Bz.frozen 3
      have HB1 := Lib.hid V3.1
      have HDh := Lib.hid HD
      clear Bz V3 V2 HD V V1 hb hb1
      go_wp2
      exact bodyPost_ret (v := .tuple #[.agg #[.bool m', .int .u64 a', .int .u64 b', .int .i64 P.length], .int .i64 0]) (by simp [results, Tryd.results4, go_sem, q0, q1, q2, q3]) rfl ⟨_, ⟨_, _, _, HDh.out, rfl⟩, rfl, bel4 HB1.out hle⟩
end Go.Proofs.YtlhceelkefgjhaaDoor

namespace Go.Proofs.YtlhceelkefgjhaaDoor
open Go.RowKit
theorem numL_cons (c : UInt8) (l : List UInt8) : numL (c :: l) = (c.toNat - 48) * 10 ^ l.length + numL l := by
  have h : ∀ (l : List UInt8) (a : Nat), l.foldl (fun n c => n * 10 + (c.toNat - 48)) a = a * 10 ^ l.length + l.foldl (fun n c => n * 10 + (c.toNat - 48)) 0 := by
    intro l
    induction l with
    | nil => intro a; simp
    | cons d l ih =>
      intro a
      simp only [List.foldl_cons, List.length_cons]
      rw [ih (a * 10 + (d.toNat - 48)), ih (0 * 10 + (d.toNat - 48)), Nat.pow_succ]
      rw [Nat.zero_mul, Nat.zero_add, Nat.add_mul, Nat.mul_assoc, Nat.mul_comm 10, Nat.add_assoc]
  unfold numL
  rw [List.foldl_cons, h]
  simp
theorem numL_app : ∀ (a b : List UInt8), numL (a ++ b) = numL a * 10 ^ b.length + numL b
  | [], b => by simp [numL]
  | c :: a, b => by
    rw [List.cons_append, numL_cons, numL_app a b, numL_cons, List.length_append, Nat.pow_add, Nat.add_mul, Nat.mul_assoc, Nat.add_assoc]
theorem numL_zeros (l : List UInt8) : ∀ k, numL (Lib.repeatL [48] k ++ l) = numL l
  | 0 => by simp [Lib.repeatL]
  | k + 1 => by
    have ih := numL_zeros l k
    show numL (48 :: (Lib.repeatL [48] k ++ l)) = _
    rw [numL_cons, ih]
    simp
theorem numL_pad (l : List UInt8) (m : Int) : numL (padL l m) = numL l := numL_zeros l _
theorem numL_trim : ∀ (l : List UInt8), numL (Lib.trimLeftB l 48) = numL l
  | [] => rfl
  | c :: l => by
    have ih := numL_trim l
    unfold Lib.trimLeftB at *
    by_cases hc : c = 48
    · subst hc
      rw [List.dropWhile_cons_of_pos (by simp), ih, numL_cons]
      simp
    · rw [List.dropWhile_cons_of_neg (by simpa using hc)]
theorem dig_of {d : Nat} (h : d < 10) : (UInt8.ofNat (48 + d)).toNat = 48 + d := by
  rw [UInt8.toNat_ofNat']; omega
theorem dec_num (u : Nat) : numL (Lib.decDigits u) = u := by
  induction u using Nat.strongRecOn with
  | _ u ih =>
    rw [Lib.decDigits]
    by_cases h : u < 10
    · rw [dif_pos h, numL_cons, dig_of h]
      simp [numL]
    · rw [dif_neg h, numL_app, ih (u / 10) (by omega), numL_cons, dig_of (by omega)]
      simp [numL]
      omega
theorem isDig_of {d : Nat} (h : d < 10) : isDig (UInt8.ofNat (48 + d)) = true := by
  unfold isDig; rw [dig_of h]; simp; omega
theorem dec_dig (u : Nat) : (Lib.decDigits u).all isDig = true := by
  induction u using Nat.strongRecOn with
  | _ u ih =>
    rw [Lib.decDigits]
    by_cases h : u < 10
    · rw [dif_pos h, List.all_cons, isDig_of h]; rfl
    · rw [dif_neg h, List.all_append, ih (u / 10) (by omega), List.all_cons, isDig_of (show u % 10 < 10 by omega)]
      rfl
theorem zeros_dig : ∀ k, (Lib.repeatL [48] k).all isDig = true
  | 0 => rfl
  | k + 1 => by
    show (48 :: Lib.repeatL [48] k).all isDig = true
    rw [List.all_cons, zeros_dig k]
    rfl
theorem pad_dig {l : List UInt8} (h : l.all isDig = true) (m : Int) : (padL l m).all isDig = true := by
  unfold padL; rw [List.all_append, zeros_dig, h]; rfl
theorem trim_dig {l : List UInt8} (h : l.all isDig = true) : (Lib.trimLeftB l 48).all isDig = true := by
  rw [List.all_eq_true] at *
  exact fun c hc => h c ((List.dropWhile_sublist _).subset hc)
theorem fig_dig (N : Nat) (m : Int) : (figL N m).all isDig = true := by
  unfold figL
  exact pad_dig (trim_dig (by rw [List.all_append, dec_dig, pad_dig (dec_dig _)]; rfl)) m
theorem dec_len15 {u : Nat} (h : u < 1000000000000000) : (Lib.decDigits u).length ≤ 15 := by
  rw [Lib.decDigits_length]; exact nDig_pow 14 u (Nat.lt_of_lt_of_le h (by decide))
theorem pad15 {u : Nat} (h : u < 1000000000000000) : (padL (Lib.decDigits u) 15).length = 15 := by
  have := dec_len15 h
  rw [padL_length]; omega
theorem fig_num (N : Nat) (m : Int) : numL (figL N m) = N := by
  have h : N % 1000000000000000 < 1000000000000000 := by omega
  unfold figL
  rw [numL_pad, numL_trim, numL_app, numL_pad, dec_num, dec_num, pad15 h]
  omega
theorem fig_len (N : Nat) (m : Int) (hN : N < 1000000000000000000000000000000) : ((figL N m).length : Int) ≤ max m 30 := by
  have h : N % 1000000000000000 < 1000000000000000 := by omega
  have h' : N / 1000000000000000 < 1000000000000000 := by omega
  have l1 := dec_len15 h'
  have l3 := trimLeftB_le (Lib.decDigits (N / 1000000000000000) ++ padL (Lib.decDigits (N % 1000000000000000)) 15) 48
  rw [List.length_append, pad15 h] at l3
  unfold figL
  rw [padL_length]
  omega
/-- The printed text is a text of Read's: whole digits W, the part's digits P. -/
theorem print_read (n : Bool) (N : Nat) (s : Int) (hN : N < 1000000000000000000000000000000) (h0 : 0 ≤ s) (h9 : s ≤ 9) :
    ∃ W P : List UInt8, printL n N s = readL n W P ∧ 1 ≤ W.length ∧ W.length ≤ 30 ∧ W.all isDig = true ∧ P.all isDig = true ∧ (P.length : Int) = s ∧ numL (W ++ P) = N := by
  have q1 := figL_ge N (s + 1)
  have q2 := fig_len N (s + 1) hN
  have q3 := fig_dig N (s + 1)
  have q4 := fig_num N (s + 1)
  refine ⟨(figL N (s + 1)).take ((figL N (s + 1)).length - s.toNat), (figL N (s + 1)).drop ((figL N (s + 1)).length - s.toNat), ?_, ?_, ?_, ?_, ?_, ?_, ?_⟩
  · unfold printL readL
    have e : dotL (figL N (s + 1)) s = tailL ((figL N (s + 1)).take ((figL N (s + 1)).length - s.toNat)) ((figL N (s + 1)).drop ((figL N (s + 1)).length - s.toNat)) := by
      generalize figL N (s + 1) = L at *
      unfold dotL tailL
      by_cases hs : s = 0
      · subst hs
        simp
      · have hd : ¬ L.drop (L.length - s.toNat) = [] := by
          intro h
          have := congrArg List.length h
          simp at this
          omega
        rw [if_neg hs, if_neg hd]
        simp
    rw [e]
  · simp; omega
  · simp; omega
  · rw [List.all_eq_true] at *
    exact fun c hc => q3 c (List.mem_of_mem_take hc)
  · rw [List.all_eq_true] at *
    exact fun c hc => q3 c (List.mem_of_mem_drop hc)
  · simp; omega
  · rw [List.take_append_drop]; exact q4
end Go.Proofs.YtlhceelkefgjhaaDoor

namespace Go.Proofs.YtlhceelkefgjhaaDoor
open Go.RowKit
theorem dd0 : Lib.decDigits 0 = [48] := by rw [Lib.decDigits]; rfl
theorem dd1250 : Lib.decDigits 1250 = [49, 50, 53, 48] := by
  rw [Lib.decDigits, dif_neg (by omega), Lib.decDigits, dif_neg (by omega), Lib.decDigits, dif_neg (by omega), Lib.decDigits, dif_pos (by omega)]
  rfl
theorem print1250 : printL true 1250 2 = [45, 49, 50, 46, 53, 48] := by
  unfold printL figL
  rw [show 1250 / 1000000000000000 = 0 from rfl, show 1250 % 1000000000000000 = 1250 from rfl, dd0, dd1250]
  rfl
theorem read1250 (m : Int) (w : World) (hm : w.cell? ⟨0, 0, none⟩ = some (.int .i64 m)) : Calls Tryd.prog 4 #[.string ⟨#[45, 49, 50, 46, 53, 48]⟩] w (Ret w (· = .tuple #[.agg #[.bool true, .int .u64 1250, .int .u64 0, .int .i64 2], .int .i64 0])) := by
  refine (read_c true [49, 50] [53, 48] m w (by decide) (by decide) (by decide) (by decide) (by decide) (by decide) (by decide) hm).mono ?_
  rintro e w' ⟨_, ⟨n, a, b, HD, rfl⟩, rfl, hb⟩
  refine ⟨_, ?_, rfl, hb⟩
  obtain ⟨h1, h2, h3, h4⟩ := HD
  have ez : zOf true (numL ([49, 50] ++ [53, 48])) = -1250 := by decide
  rw [ez] at h1 h4
  have hn : n = true := by simpa using h1
  have h4' : v2 a b = 1250 := by simpa using h4
  obtain ⟨ea, eb⟩ : a = 1250 ∧ b = 0 := by unfold U64 at h2 h3; unfold v2 at h4'; omega
  subst hn ea eb
  rfl
theorem printed1250 (w : World) (htab : Lib.TabIs Tryd.prog w "internal/strconv.uint64pow10" .u64 Lib.pow10Tab) : Calls Tryd.prog 11 #[.agg #[.bool true, .int .u64 1250, .int .u64 0, .int .i64 2]] w (Ret w (· = .string ⟨#[45, 49, 50, 46, 53, 48]⟩)) := by
  have h := print_c true 1250 0 2 w (by unfold U64; decide) (by unfold U64; decide) (by decide) 1250 (by decide) htab
  rw [print1250] at h
  exact h
set_option maxRecDepth 100000 in
set_option maxHeartbeats 1600000 in
theorem known_c (m : Int) (w : World) (hm : w.cell? ⟨0, 0, none⟩ = some (.int .i64 m)) (htab : Lib.TabIs Tryd.prog w "internal/strconv.uint64pow10" .u64 Lib.pow10Tab) : Calls Tryd.prog 10 #[] w (Ret w (IsBool true)) := by
  have HT := Lib.hid htab
  clear htab
  go_enter Tryd.func10, Tryd.ntmps10
  go_wp2_with fail
  refine (read1250 m _ hm).mono ?_
  rintro e w1 ⟨_, rfl, rfl, hb1⟩
  have he : eqW2 1250 0 1250 0 = true := rfl
  have hbx := bel_alloc hb1 (.cells #[.bool true, .int .u64 1250, .int .u64 0, .int .i64 2] 26)
  go_wp2_with fail
  refine (printed1250 _ (tabIs_below HT.out hbx)).mono ?_
  rintro e w2 ⟨_, rfl, rfl, hb2⟩
  have HB2 := Lib.hid (hbx.trans (hb2.mono hbx.size))
  clear hbx hb2 hb1
  go_wp2
  go_ret
  exact ⟨_, rfl, rfl, HB2.out⟩
end Go.Proofs.YtlhceelkefgjhaaDoor

/- Package dec: Read, where it refuses. -/
import Derived.Test.YtlhceelkefgjhaaDoorTextK
namespace Go.Proofs.YtlhceelkefgjhaaDoor
open Go.RowKit
theorem cutpre_a {t r : List UInt8} {n : Bool} (hn : Lib.hasPrefix t [45] = n) (hr : Lib.trimPrefix t [45] = r) (w : World) :
    Calls Tryd.prog 16 #[.string ⟨t.toArray⟩, .string ⟨#[45]⟩] w fun e w' => e = .returned (.tuple #[.string ⟨r.toArray⟩, .bool n]) ∧ w = w' := by
  refine (Tryd.strings_CutPrefix _ _ _).mono ?_
  rintro e w1 ⟨rfl, rfl⟩
  refine ⟨?_, rfl⟩
  show Ending.returned (.tuple #[.string ⟨(Lib.trimPrefix t [45]).toArray⟩, .bool (Lib.hasPrefix t [45])]) = _
  rw [hn, hr]
theorem cut_a {r W P : List UInt8} {pt : Bool} (hc : Lib.cut r [46] = (W, P, pt)) (hl : r.length < 4294967281) (m : Int) (w : World) (hm : w.cell? ⟨0, 0, none⟩ = some (.int .i64 m)) :
    Calls Tryd.prog 17 #[.string ⟨r.toArray⟩, .string ⟨#[46]⟩] w fun e w' => e = .returned (.tuple #[.string ⟨W.toArray⟩, .string ⟨P.toArray⟩, .bool pt]) ∧ ∃ k, w' = w.drewN k := by
  refine (Tryd.strings_Cut _ _ m _ (by show r.length < _; exact hl) hm).mono ?_
  rintro e w1 ⟨rfl, k, rfl⟩
  refine ⟨?_, k, rfl⟩
  show Ending.returned (.tuple #[.string ⟨(Lib.cut r [46]).1.toArray⟩, .string ⟨(Lib.cut r [46]).2.1.toArray⟩, .bool (Lib.cut r [46]).2.2]) = _
  rw [hc]
theorem number_over_app (W P : List UInt8) (w : World) (hb : W.length + P.length ≤ 1000) (hW : W.all isDig = true) (hP : P.all isDig = true) (hN : 1000000000000000000000000000000 ≤ numL (W ++ P)) :
    Calls Tryd.prog 19 #[.string (⟨W.toArray⟩ ++ ⟨P.toArray⟩)] w (Ret w (· = .tuple #[.agg #[.int .u64 0, .int .u64 0], .bool false])) := by
  rw [bytes_app]
  exact number_over (W ++ P) w (by rw [List.length_append]; exact hb) (by rw [List.all_append, hW, hP]; rfl) hN
set_option maxRecDepth 100000 in
set_option maxHeartbeats 1600000 in
theorem read_form1 (t r W P : List UInt8) (n pt : Bool) (m : Int) (w : World) (hn : Lib.hasPrefix t [45] = n) (hr : Lib.trimPrefix t [45] = r) (hl : r.length < 4294967281) (hc : Lib.cut r [46] = (W, P, pt)) (hd : digB W 30 = false) (hWl : W.length ≤ 281474976710656) (hm : w.cell? ⟨0, 0, none⟩ = some (.int .i64 m)) :
    Calls Tryd.prog 4 #[.string ⟨t.toArray⟩] w (Ret w (· = .tuple #[.agg #[.bool false, .int .u64 0, .int .u64 0, .int .i64 0], .int .i64 2])) := by
  have hle : w.heap.size ≤ w.heap.size := Nat.le_refl _
  have V : HB w [(w.heap.size, 26, #[.bool false, .int .u64 0, .int .u64 0, .int .i64 0])] (w.alloc (.cells #[.bool false, .int .u64 0, .int .u64 0, .int .i64 0] 26)) := (HB.start (Below.refl _ w)).push _ _
  have HN := Lib.hid hn
  have HR := Lib.hid hr
  have HC := Lib.hid hc
  have HDg := Lib.hid hd
  clear hn hr hc hd
  go_enter Tryd.func4, Tryd.ntmps4
  go_wp2_with fail
  refine (cutpre_a HN.out HR.out _).mono ?_
  rintro e w1 ⟨rfl, rfl⟩
  go_wp2_with fail
  refine (cut_a HC.out hl m _ ?_).mono ?_
  · exact cell_keep V.bel hm
  rintro e w1 ⟨rfl, k, rfl⟩
  go_wp2_with fail
  refine (digits_any W 30 false _ (by omega) HDg.out hWl).mono ?_
  rintro e w1 ⟨rfl, rfl⟩
  have V3 := V.below (bel_drewN (Below.refl _ _) k)
  obtain ⟨lq, q0, q1, q2, q3⟩ := HB.dec (t := 26) (g := w.heap.size) (a := .bool false) (b := .int .u64 0) (c := .int .u64 0) (d := .int .i64 0) V3 (by simp)
  have Bz := HB.blk (g := w.heap.size) (t := 26) (cs := #[.bool false, .int .u64 0, .int .u64 0, .int .i64 0]) V3 (by simp)
  have fz0 := Bz.frozen 0
  have fz1 := Bz.frozen 1
  have fz2 := Bz.frozen 2
  have fz3 := Bz.frozen 3
  have HB1 := Lib.hid V3.1
  clear Bz V3 V
  go_wp2
  exact bodyPost_ret (v := .tuple #[.agg #[.bool false, .int .u64 0, .int .u64 0, .int .i64 0], .int .i64 2]) (by simp [results, Tryd.results4, go_sem, q0, q1, q2, q3]) rfl ⟨_, rfl, rfl, bel4 HB1.out hle⟩
set_option maxRecDepth 100000 in
set_option maxHeartbeats 1600000 in
theorem read_form2 (t r W P : List UInt8) (n : Bool) (m : Int) (w : World) (hn : Lib.hasPrefix t [45] = n) (hr : Lib.trimPrefix t [45] = r) (hl : r.length < 4294967281) (hc : Lib.cut r [46] = (W, P, true)) (hd : digB W 30 = true) (hd2 : digB P 9 = false) (hWl : W.length ≤ 281474976710656) (hPl : P.length ≤ 281474976710656) (hm : w.cell? ⟨0, 0, none⟩ = some (.int .i64 m)) :
    Calls Tryd.prog 4 #[.string ⟨t.toArray⟩] w (Ret w (· = .tuple #[.agg #[.bool false, .int .u64 0, .int .u64 0, .int .i64 0], .int .i64 2])) := by
  have hle : w.heap.size ≤ w.heap.size := Nat.le_refl _
  have V : HB w [(w.heap.size, 26, #[.bool false, .int .u64 0, .int .u64 0, .int .i64 0])] (w.alloc (.cells #[.bool false, .int .u64 0, .int .u64 0, .int .i64 0] 26)) := (HB.start (Below.refl _ w)).push _ _
  have HN := Lib.hid hn
  have HR := Lib.hid hr
  have HC := Lib.hid hc
  have HDg := Lib.hid hd
  have HDh := Lib.hid hd2
  clear hn hr hc hd hd2
  go_enter Tryd.func4, Tryd.ntmps4
  go_wp2_with fail
  refine (cutpre_a HN.out HR.out _).mono ?_
  rintro e w1 ⟨rfl, rfl⟩
  go_wp2_with fail
  refine (cut_a HC.out hl m _ ?_).mono ?_
  · exact cell_keep V.bel hm
  rintro e w1 ⟨rfl, k, rfl⟩
  go_wp2_with fail
  refine (digits_any W 30 true _ (by omega) HDg.out hWl).mono ?_
  rintro e w1 ⟨rfl, rfl⟩
  go_wp2_with fail
  refine (digits_any P 9 false _ (by omega) HDh.out hPl).mono ?_
  rintro e w1 ⟨rfl, rfl⟩
  have V3 := V.below (bel_drewN (Below.refl _ _) k)
  obtain ⟨lq, q0, q1, q2, q3⟩ := HB.dec (t := 26) (g := w.heap.size) (a := .bool false) (b := .int .u64 0) (c := .int .u64 0) (d := .int .i64 0) V3 (by simp)
  have Bz := HB.blk (g := w.heap.size) (t := 26) (cs := #[.bool false, .int .u64 0, .int .u64 0, .int .i64 0]) V3 (by simp)
  have fz0 := Bz.frozen 0
  have fz1 := Bz.frozen 1
  have fz2 := Bz.frozen 2
  have fz3 := Bz.frozen 3
  have HB1 := Lib.hid V3.1
  clear Bz V3 V
  go_wp2
  exact bodyPost_ret (v := .tuple #[.agg #[.bool false, .int .u64 0, .int .u64 0, .int .i64 0], .int .i64 2]) (by simp [results, Tryd.results4, go_sem, q0, q1, q2, q3]) rfl ⟨_, rfl, rfl, bel4 HB1.out hle⟩
/-- What is behind the point is none, or up to nine digits. -/
def partOk (P : List UInt8) (pt : Bool) : Prop := (pt = false ∧ P = []) ∨ (pt = true ∧ digB P 9 = true)
theorem digB_yes {l : List UInt8} {most : Int} (h : digB l most = true) : 1 ≤ l.length ∧ (l.length : Int) ≤ most ∧ l.all isDig = true := by
  unfold digB at h
  simp at h
  refine ⟨h.1.1, h.1.2, ?_⟩
  simpa using h.2
set_option maxRecDepth 100000 in
set_option maxHeartbeats 1600000 in
theorem read_over (t r W P : List UInt8) (n pt : Bool) (m : Int) (w : World) (hn : Lib.hasPrefix t [45] = n) (hr : Lib.trimPrefix t [45] = r) (hl : r.length < 4294967281) (hc : Lib.cut r [46] = (W, P, pt)) (hd : digB W 30 = true) (hp : partOk P pt) (hN : 1000000000000000000000000000000 ≤ numL (W ++ P)) (hm : w.cell? ⟨0, 0, none⟩ = some (.int .i64 m)) :
    Calls Tryd.prog 4 #[.string ⟨t.toArray⟩] w (Ret w (· = .tuple #[.agg #[.bool false, .int .u64 0, .int .u64 0, .int .i64 0], .int .i64 3])) := by
  have hle : w.heap.size ≤ w.heap.size := Nat.le_refl _
  have V : HB w [(w.heap.size, 26, #[.bool false, .int .u64 0, .int .u64 0, .int .i64 0])] (w.alloc (.cells #[.bool false, .int .u64 0, .int .u64 0, .int .i64 0] 26)) := (HB.start (Below.refl _ w)).push _ _
  obtain ⟨w1', w2', w3'⟩ := digB_yes hd
  have hP : (P.length : Int) ≤ 9 ∧ P.all isDig = true := by
    rcases hp with ⟨_, rfl⟩ | ⟨_, h⟩
    · simp
    · exact (digB_yes h).2
  have HN := Lib.hid hn
  have HR := Lib.hid hr
  have HC := Lib.hid hc
  have HDg := Lib.hid hd
  have HW3 := Lib.hid (And.intro w3' hP.2)
  have hPl := hP.1
  have HNo := Lib.hid hN
  have hlen : ¬ 9223372036854775807 < W.length + P.length := by omega
  have hWP : W.length + P.length ≤ 1000 := by omega
  have hWl : W.length ≤ 281474976710656 := by omega
  have hPl2 : P.length ≤ 281474976710656 := by omega
  clear hn hr hc hd w3' hP hN
  rcases hp with ⟨rfl, hPe⟩ | ⟨rfl, hPd⟩
  · have HPe := Lib.hid hPe
    clear hPe
    go_enter Tryd.func4, Tryd.ntmps4
    go_wp2_with fail
    refine (cutpre_a HN.out HR.out _).mono ?_
    rintro e w1 ⟨rfl, rfl⟩
    go_wp2_with fail
    refine (cut_a HC.out hl m _ ?_).mono ?_
    · exact cell_keep V.bel hm
    rintro e w1 ⟨rfl, k, rfl⟩
    go_wp2_with fail
    refine (digits_any W 30 true _ (by omega) HDg.out hWl).mono ?_
    rintro e w1 ⟨rfl, rfl⟩
    go_wp2_with fail
    refine (number_over_app W P _ hWP HW3.out.1 HW3.out.2 HNo.out).mono ?_
    rintro e w1 ⟨_, rfl, rfl, hb1⟩
    have V3 := (V.below (Below.trans (bel_drewN (Below.refl _ _) k) hb1)).alloc (.cells #[.int .u64 0, .int .u64 0] 24)
    obtain ⟨lq, q0, q1, q2, q3⟩ := HB.dec (t := 26) (g := w.heap.size) (a := .bool false) (b := .int .u64 0) (c := .int .u64 0) (d := .int .i64 0) V3 (by simp)
    have Bz := HB.blk (g := w.heap.size) (t := 26) (cs := #[.bool false, .int .u64 0, .int .u64 0, .int .i64 0]) V3 (by simp)
    have fz0 := Bz.frozen 0
    have fz1 := Bz.frozen 1
    have fz2 := Bz.frozen 2
    have fz3 := Bz.frozen 3
    have HB1 := Lib.hid V3.1
    clear Bz V3 V hb1
    go_wp2
    exact bodyPost_ret (v := .tuple #[.agg #[.bool false, .int .u64 0, .int .u64 0, .int .i64 0], .int .i64 3]) (by simp [results, Tryd.results4, go_sem, q0, q1, q2, q3]) rfl ⟨_, rfl, rfl, bel4 HB1.out hle⟩
  · have HPd := Lib.hid hPd
    clear hPd
    go_enter Tryd.func4, Tryd.ntmps4
    go_wp2_with fail
    refine (cutpre_a HN.out HR.out _).mono ?_
    rintro e w1 ⟨rfl, rfl⟩
    go_wp2_with fail
    refine (cut_a HC.out hl m _ ?_).mono ?_
    · exact cell_keep V.bel hm
    rintro e w1 ⟨rfl, k, rfl⟩
    go_wp2_with fail
    refine (digits_any W 30 true _ (by omega) HDg.out hWl).mono ?_
    rintro e w1 ⟨rfl, rfl⟩
    go_wp2_with fail
    refine (digits_any P 9 true _ (by omega) HPd.out hPl2).mono ?_
    rintro e w1 ⟨rfl, rfl⟩
    go_wp2_with fail
    refine (number_over_app W P _ hWP HW3.out.1 HW3.out.2 HNo.out).mono ?_
    rintro e w1 ⟨_, rfl, rfl, hb1⟩
    have V3 := (V.below (Below.trans (bel_drewN (Below.refl _ _) k) hb1)).alloc (.cells #[.int .u64 0, .int .u64 0] 24)
    obtain ⟨lq, q0, q1, q2, q3⟩ := HB.dec (t := 26) (g := w.heap.size) (a := .bool false) (b := .int .u64 0) (c := .int .u64 0) (d := .int .i64 0) V3 (by simp)
    have Bz := HB.blk (g := w.heap.size) (t := 26) (cs := #[.bool false, .int .u64 0, .int .u64 0, .int .i64 0]) V3 (by simp)
    have fz0 := Bz.frozen 0
    have fz1 := Bz.frozen 1
    have fz2 := Bz.frozen 2
    have fz3 := Bz.frozen 3
    have HB1 := Lib.hid V3.1
    clear Bz V3 V hb1
    go_wp2
    exact bodyPost_ret (v := .tuple #[.agg #[.bool false, .int .u64 0, .int .u64 0, .int .i64 0], .int .i64 3]) (by simp [results, Tryd.results4, go_sem, q0, q1, q2, q3]) rfl ⟨_, rfl, rfl, bel4 HB1.out hle⟩
end Go.Proofs.YtlhceelkefgjhaaDoor

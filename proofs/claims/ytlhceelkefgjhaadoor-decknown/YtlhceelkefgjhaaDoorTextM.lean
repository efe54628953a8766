/- Package dec: Read of a zero below 0. -/
import Derived.Test.YtlhceelkefgjhaaDoorTextL
namespace Go.Proofs.YtlhceelkefgjhaaDoor
open Go.RowKit
set_option maxRecDepth 100000 in
set_option maxHeartbeats 1600000 in
theorem read_zero (t r W P : List UInt8) (pt : Bool) (m : Int) (w : World) (hn : Lib.hasPrefix t [45] = true) (hr : Lib.trimPrefix t [45] = r) (hl : r.length < 4294967281) (hc : Lib.cut r [46] = (W, P, pt)) (hd : digB W 30 = true) (hp : partOk P pt) (hN : numL (W ++ P) = 0) (hm : w.cell? ⟨0, 0, none⟩ = some (.int .i64 m)) :
    Calls Tryd.prog 4 #[.string ⟨t.toArray⟩] w (Ret w (· = .tuple #[.agg #[.bool false, .int .u64 0, .int .u64 0, .int .i64 0], .int .i64 2])) := by
  have hle : w.heap.size ≤ w.heap.size := Nat.le_refl _
  have V : HB w [(w.heap.size, 26, #[.bool false, .int .u64 0, .int .u64 0, .int .i64 0])] (w.alloc (.cells #[.bool false, .int .u64 0, .int .u64 0, .int .i64 0] 26)) := (HB.start (Below.refl _ w)).push _ _
  obtain ⟨w1', w2', w3'⟩ := digB_yes hd
  have hP : (P.length : Int) ≤ 9 ∧ P.all isDig = true := by
    rcases hp with ⟨_, rfl⟩ | ⟨_, h⟩
    · simp
    · exact (digB_yes h).2
  have HN := Lib.hid hn
  have HR := Lib.hid hr
  have HC := Lib.hid hc
  have HDg := Lib.hid hd
  have HW3 := Lib.hid (And.intro w3' hP.2)
  have hPl := hP.1
  have HNo := Lib.hid hN
  have hlen : ¬ 9223372036854775807 < W.length + P.length := by omega
  have hWP : W.length + P.length ≤ 1000 := by omega
  have hWl : W.length ≤ 281474976710656 := by omega
  have hPl2 : P.length ≤ 281474976710656 := by omega
  clear hn hr hc hd w3' hP hN
  rcases hp with ⟨rfl, hPe⟩ | ⟨rfl, hPd⟩
  · clear hPe
    go_enter Tryd.func4, Tryd.ntmps4
    go_wp2_with fail
    refine (cutpre_a HN.out HR.out _).mono ?_
    rintro e w1 ⟨rfl, rfl⟩
    go_wp2_with fail
    refine (cut_a HC.out hl m _ ?_).mono ?_
    · exact cell_keep V.bel hm
    rintro e w1 ⟨rfl, k, rfl⟩
    go_wp2_with fail
    refine (digits_any W 30 true _ (by omega) HDg.out hWl).mono ?_
    rintro e w1 ⟨rfl, rfl⟩
    go_wp2_with fail
    refine (number_app W P _ hWP HW3.out.1 HW3.out.2 (by rw [HNo.out]; decide)).mono ?_
    rintro e w1 ⟨_, ⟨x, y, HX, rfl⟩, rfl, hb1⟩
    have V1 := V.below (Below.trans (bel_drewN (Below.refl _ _) k) hb1)
    obtain ⟨hx, hy, ex⟩ := HX
    have hβ : eqW2 x y 0 0 = true := by
      rw [eqW2_0 hx hy, ex, HNo.out]
      rfl
    clear ex
    have V1c := V1.alloc (.cells #[.int .u64 x, .int .u64 y] 24)
    go_wp2_with fail
    go_region_held3 (fun w' => w'.cell? ⟨w1.heap.size, 0, none⟩ = some (.int .u64 x) ∧ w'.cell? ⟨w1.heap.size, 1, none⟩ = some (.int .u64 y)) (simp [go_sem]) (first | (go_at_call 20; refine (of_x _ _).mono ?_; rintro e wx ⟨rfl, rfl⟩))
    have V3 := (V1c.alloc (.cells #[.int .u64 0, .int .u64 0] 24)).drew
    clear V1c
    revert V3
    generalize ((w1.alloc (.cells #[.int .u64 x, .int .u64 y] 24)).alloc (.cells #[.int .u64 0, .int .u64 0] 24)).drew = wz
    intro V3
    obtain ⟨lq, q0, q1, q2, q3⟩ := HB.dec (t := 26) (g := w.heap.size) (a := .bool false) (b := .int .u64 0) (c := .int .u64 0) (d := .int .i64 0) V3 (by simp)
    have Bz := HB.blk (g := w.heap.size) (t := 26) (cs := #[.bool false, .int .u64 0, .int .u64 0, .int .i64 0]) V3 (by simp)
    have fz0 := Bz.frozen 0
    have fz1 := Bz.frozen 1
    have fz2 := Bz.frozen 2
    have fz3 := Bz.frozen 3
    have HB1 := Lib.hid V3.1
    clear Bz V3 V V1 hb1
    go_wp2
    exact bodyPost_ret (v := .tuple #[.agg #[.bool false, .int .u64 0, .int .u64 0, .int .i64 0], .int .i64 2]) (by simp [results, Tryd.results4, go_sem, q0, q1, q2, q3]) rfl ⟨_, rfl, rfl, bel4 HB1.out hle⟩
  · have HPd := Lib.hid hPd
    clear hPd
    go_enter Tryd.func4, Tryd.ntmps4
    go_wp2_with fail
    refine (cutpre_a HN.out HR.out _).mono ?_
    rintro e w1 ⟨rfl, rfl⟩
    go_wp2_with fail
    refine (cut_a HC.out hl m _ ?_).mono ?_
    · exact cell_keep V.bel hm
    rintro e w1 ⟨rfl, k, rfl⟩
    go_wp2_with fail
    refine (digits_any W 30 true _ (by omega) HDg.out hWl).mono ?_
    rintro e w1 ⟨rfl, rfl⟩
    go_wp2_with fail
    refine (digits_any P 9 true _ (by omega) HPd.out hPl2).mono ?_
    rintro e w1 ⟨rfl, rfl⟩
    go_wp2_with fail
    refine (number_app W P _ hWP HW3.out.1 HW3.out.2 (by rw [HNo.out]; decide)).mono ?_
    rintro e w1 ⟨_, ⟨x, y, HX, rfl⟩, rfl, hb1⟩
    have V1 := V.below (Below.trans (bel_drewN (Below.refl _ _) k) hb1)
    obtain ⟨hx, hy, ex⟩ := HX
    have hβ : eqW2 x y 0 0 = true := by
      rw [eqW2_0 hx hy, ex, HNo.out]
      rfl
    clear ex
    have V1c := V1.alloc (.cells #[.int .u64 x, .int .u64 y] 24)
    go_wp2_with fail
    go_region_held3 (fun w' => w'.cell? ⟨w1.heap.size, 0, none⟩ = some (.int .u64 x) ∧ w'.cell? ⟨w1.heap.size, 1, none⟩ = some (.int .u64 y)) (simp [go_sem]) (first | (go_at_call 20; refine (of_x _ _).mono ?_; rintro e wx ⟨rfl, rfl⟩))
    have V3 := (V1c.alloc (.cells #[.int .u64 0, .int .u64 0] 24)).drew
    clear V1c
    revert V3
    generalize ((w1.alloc (.cells #[.int .u64 x, .int .u64 y] 24)).alloc (.cells #[.int .u64 0, .int .u64 0] 24)).drew = wz
    intro V3
    obtain ⟨lq, q0, q1, q2, q3⟩ := HB.dec (t := 26) (g := w.heap.size) (a := .bool false) (b := .int .u64 0) (c := .int .u64 0) (d := .int .i64 0) V3 (by simp)
    have Bz := HB.blk (g := w.heap.size) (t := 26) (cs := #[.bool false, .int .u64 0, .int .u64 0, .int .i64 0]) V3 (by simp)
    have fz0 := Bz.frozen 0
    have fz1 := Bz.frozen 1
    have fz2 := Bz.frozen 2
    have fz3 := Bz.frozen 3
    have HB1 := Lib.hid V3.1
    clear Bz V3 V V1 hb1
    go_wp2
    exact bodyPost_ret (v := .tuple #[.agg #[.bool false, .int .u64 0, .int .u64 0, .int .i64 0], .int .i64 2]) (by simp [results, Tryd.results4, go_sem, q0, q1, q2, q3]) rfl ⟨_, rfl, rfl, bel4 HB1.out hle⟩
end Go.Proofs.YtlhceelkefgjhaaDoor

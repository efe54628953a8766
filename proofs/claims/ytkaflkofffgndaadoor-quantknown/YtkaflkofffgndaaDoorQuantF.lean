/- dec.Of; quant.Quant. -/
import Derived.Test.YtkaflkofffgndaaDoorQuantE
namespace Go.Proofs.YtkaflkofffgndaaDoor
open Go.RowKit
theorem dec_pos {z : Int} (h0 : 0 ≤ z) (h1 : z ≤ 1000000000) : DecIs false z 0 z := by
  refine ⟨(decide_eq_false (by omega)).symm, by unfold U64; omega, u64_0, ?_⟩
  rw [v2_low]; omega
theorem dec_neg {z : Int} (h0 : z < 0) (h1 : -1000000000 ≤ z) : DecIs true (-z) 0 z := by
  refine ⟨(decide_eq_true h0).symm, by unfold U64; omega, u64_0, ?_⟩
  rw [v2_low]; omega
set_option maxRecDepth 100000 in
set_option maxHeartbeats 1600000 in
theorem dOf_d (z s : Int) (w : World) (hlo : -1000000000 ≤ z) (hhi : z ≤ 1000000000) (h0 : 0 ≤ s) (h9 : s ≤ 9) :
    Calls Tryd.prog 5 #[.int .i64 z, .int .i64 s] w (Ret w (IsDec z s)) := by
  have W : HB w [(w.heap.size, 27, #[.bool false, .int .u64 0, .int .u64 0, .int .i64 0])] (w.alloc (.cells #[.bool false, .int .u64 0, .int .u64 0, .int .i64 0] 27)) := (HB.start (Below.refl _ w)).push #[.bool false, .int .u64 0, .int .u64 0, .int .i64 0] 27
  have hlg : w.heap.size ≤ w.heap.size := Nat.le_refl _
  have hmx : max s 0 = s := by omega
  have hmn : min s 9 = s := by omega
  rcases Int.lt_or_le z 0 with hz | hz
  · have HDI := Lib.hid (dec_neg hz hlo)
    have hw : IntKind.u64.wrap z = z + 18446744073709551616 := by rw [IntKind.wrap_u64]; omega
    have hw2 : IntKind.u64.wrap (-(z + 18446744073709551616)) = -z := by rw [IntKind.wrap_u64]; omega
    obtain ⟨u, hu⟩ : ∃ u, z + 18446744073709551616 = u := ⟨_, rfl⟩
    rw [hu] at hw hw2
    clear hu
    go_enter Tryd.func5, Tryd.ntmps5
    go_wp2_with fail
    refine (of_c (-z) _).mono ?_
    rintro e w1 ⟨_, rfl, rfl, hb⟩
    replace W := W.below hb
    clear hb
    obtain ⟨lq, y0, y1, y2, y3⟩ := HB.dec (t := 27) (g := w.heap.size) (a := .bool false) (b := .int .u64 0) (c := .int .u64 0) (d := .int .i64 0) W (by simp)
    have Bz := HB.blk (g := w.heap.size) (t := 27) (cs := #[.bool false, .int .u64 0, .int .u64 0, .int .i64 0]) W (by simp)
    have fz0 := Bz.frozen 0
    have fz1 := Bz.frozen 1
    have fz2 := Bz.frozen 2
    have fz3 := Bz.frozen 3
    clear Bz
    have HB1 := Lib.hid W.1
    clear W
    go_wp2
    exact bodyPost_ret (v := .agg #[.bool true, .int .u64 (-z), .int .u64 0, .int .i64 s]) (by simp [results, Tryd.results5, go_sem, y0, y1, y2, y3]) rfl ⟨_, ⟨_, _, _, HDI.out, rfl⟩, rfl, bel4 HB1.out hlg⟩
  · have HDI := Lib.hid (dec_pos hz hhi)
    have hw : IntKind.u64.wrap z = z := by rw [IntKind.wrap_u64]; omega
    go_enter Tryd.func5, Tryd.ntmps5
    go_wp2_with fail
    refine (of_c z _).mono ?_
    rintro e w1 ⟨_, rfl, rfl, hb⟩
    replace W := W.below hb
    clear hb
    obtain ⟨lq, y0, y1, y2, y3⟩ := HB.dec (t := 27) (g := w.heap.size) (a := .bool false) (b := .int .u64 0) (c := .int .u64 0) (d := .int .i64 0) W (by simp)
    have Bz := HB.blk (g := w.heap.size) (t := 27) (cs := #[.bool false, .int .u64 0, .int .u64 0, .int .i64 0]) W (by simp)
    have fz0 := Bz.frozen 0
    have fz1 := Bz.frozen 1
    have fz2 := Bz.frozen 2
    have fz3 := Bz.frozen 3
    clear Bz
    have HB1 := Lib.hid W.1
    clear W
    go_wp2
    exact bodyPost_ret (v := .agg #[.bool false, .int .u64 z, .int .u64 0, .int .i64 s]) (by simp [results, Tryd.results5, go_sem, y0, y1, y2, y3, Int.not_lt.2 hz]) rfl ⟨_, ⟨_, _, _, HDI.out, rfl⟩, rfl, bel4 HB1.out hlg⟩
theorem dOf_v (z s : Int) (n : Bool) (a b : Int) (w : World) (hlo : -1000000000 ≤ z) (hhi : z ≤ 1000000000) (h0 : 0 ≤ s) (h9 : s ≤ 9) (h : DecIs n a b z) :
    Calls Tryd.prog 5 #[.int .i64 z, .int .i64 s] w (Ret w (· = .agg #[.bool n, .int .u64 a, .int .u64 b, .int .i64 s])) :=
  (dOf_d z s w hlo hhi h0 h9).mono fun e w' ⟨v, ⟨m, c, d, hd, ev⟩, he, hb⟩ => by
    obtain ⟨rfl, rfl, rfl⟩ := decIs_one hd h
    exact ⟨v, ev, he, hb⟩
theorem qMk {w0 w : World} {ga ge : Nat} {n : Bool} {a b s : Int} (h : HB w0 [(ga, 27, #[.bool n, .int .u64 a, .int .u64 b, .int .i64 s])] w ∧ Any4 w ge 27) : HB w0 [(ga, 27, #[.bool n, .int .u64 a, .int .u64 b, .int .i64 s])] w ∧ Any4 w ge 27 ∧ (w.cell? ⟨ga, 0, none⟩ = some (.bool n) ∧ w.cell? ⟨ga, 1, none⟩ = some (.int .u64 a) ∧ w.cell? ⟨ga, 2, none⟩ = some (.int .u64 b) ∧ w.cell? ⟨ga, 3, none⟩ = some (.int .i64 s)) :=
  ⟨h.1, h.2, (HB.dec (t := 27) h.1 (by simp)).2⟩
set_option maxRecDepth 100000 in
set_option maxHeartbeats 1600000 in
theorem quant_q (n : Bool) (a b s z t mode : Int) (w : World) (h : DecIs n a b z) (hz : z.natAbs < 1000000000000000000000000000000) (h0 : 0 ≤ s) (h9 : s ≤ 9) (ht0 : 0 ≤ t) (ht9 : t ≤ 9) (hm : mode = 0 ∨ mode = 1 ∨ mode = 2 ∨ mode = 3 ∨ mode = 4)
    (N : Nat) (hN : divN n z s 1 0 t mode = N) (hb30 : N < 1000000000000000000000000000000) :
    Calls Tryd.prog 4 #[.agg #[.bool n, .int .u64 a, .int .u64 b, .int .i64 s], .int .i64 t, .int .i64 mode] w (Ret w (IsDecE (zOf n N) t 0)) := by
  have W : HB w [(w.heap.size + 1, 27, #[.bool false, .int .u64 0, .int .u64 0, .int .i64 0]), (w.heap.size, 27, #[.bool n, .int .u64 a, .int .u64 b, .int .i64 s])] ((w.alloc (.cells #[.bool n, .int .u64 a, .int .u64 b, .int .i64 s] 27)).alloc (.cells #[.bool false, .int .u64 0, .int .u64 0, .int .i64 0] 27)) := by
    have h := ((HB.start (Below.refl _ w)).push #[.bool n, .int .u64 a, .int .u64 b, .int .i64 s] 27).push #[.bool false, .int .u64 0, .int .u64 0, .int .i64 0] 27
    simpa using h
  have hlg : w.heap.size ≤ w.heap.size + 1 := by omega
  have RC := Lib.hid (show ∀ wq : World, Calls Tryd.prog 6 #[.agg #[.bool n, .int .u64 a, .int .u64 b, .int .i64 s], .agg #[.bool false, .int .u64 1, .int .u64 0, .int .i64 0], .int .i64 t, .int .i64 mode] wq (Ret wq (IsDecE (zOf n N) t 0)) from fun wq => by
    have := div_q n a b s z false 1 0 0 1 t mode wq h (dec_pos (by decide) (by decide)) hz (by unfold Sm; decide) (by decide) h0 (by decide) h9 (by decide) ht0 ht9 hm N (by rw [show (n != false) = n by cases n <;> rfl]; exact hN) hb30
    rw [show (n != false) = n by cases n <;> rfl] at this
    exact this)
  have OC := Lib.hid (show ∀ wq : World, Calls Tryd.prog 5 #[.int .i64 1, .int .i64 0] wq (Ret wq (· = .agg #[.bool false, .int .u64 1, .int .u64 0, .int .i64 0])) from fun wq => dOf_v 1 0 false 1 0 wq (by decide) (by decide) (by decide) (by decide) (dec_pos (by decide) (by decide)))
  have A0 : Any4 ((w.alloc (.cells #[.bool n, .int .u64 a, .int .u64 b, .int .i64 s] 27)).alloc (.cells #[.bool false, .int .u64 0, .int .u64 0, .int .i64 0] 27)) (w.heap.size + 1) 27 := ⟨_, _, _, _, HB.blk (g := w.heap.size + 1) (t := 27) (cs := #[.bool false, .int .u64 0, .int .u64 0, .int .i64 0]) W (by simp)⟩
  have V : HB w [(w.heap.size, 27, #[.bool n, .int .u64 a, .int .u64 b, .int .i64 s])] ((w.alloc (.cells #[.bool n, .int .u64 a, .int .u64 b, .int .i64 s] 27)).alloc (.cells #[.bool false, .int .u64 0, .int .u64 0, .int .i64 0] 27)) := HB.sub W (by simp)
  have HV := Lib.hid (And.intro V A0)
  have hnes : ∀ b0 ∈ ([(w.heap.size, 27, #[.bool n, .int .u64 a, .int .u64 b, .int .i64 s])] : List (Nat × TypeId × Array Value)), b0.1 ≠ w.heap.size + 1 := by
    intro b0 hb
    simp at hb
    subst hb
    simp
  have HNE := Lib.hid hnes
  clear W V A0 hnes h hz hm hN hb30
  go_enter Tryd.func4, Tryd.ntmps4
  go_upto_region 1 with fail
  go_region_held3 (fun w' => HB w [(w.heap.size, 27, #[.bool n, .int .u64 a, .int .u64 b, .int .i64 s])] w' ∧ Any4 w' (w.heap.size + 1) 27 ∧ (w'.cell? ⟨w.heap.size, 0, none⟩ = some (.bool n) ∧ w'.cell? ⟨w.heap.size, 1, none⟩ = some (.int .u64 a) ∧ w'.cell? ⟨w.heap.size, 2, none⟩ = some (.int .u64 b) ∧ w'.cell? ⟨w.heap.size, 3, none⟩ = some (.int .i64 s)))
    (first
      | exact qMk ⟨HB.drew HV.out.1, HV.out.2⟩
      | exact qMk HY.out
      | exact qMk HX.out
      | exact qMk (hbA_set hlg HNE.out HY.out))
    (first
      | (go_at_call 5; (with_reducible refine (OC.out _).mono ?_); rintro e wx ⟨_, rfl, rfl, hbx⟩; have HX := Lib.hid (hbA_keep hbx (by assumption)); clear hbx)
      | (go_at_call 6; (with_reducible refine (RC.out _).mono ?_); rintro e wy ⟨_, ⟨n2, a2, b2, D2, rfl⟩, rfl, hby⟩; have HY := Lib.hid (hbA_keep hby (by assumption)); have HD2 := Lib.hid D2; clear D2 hby; obtain ⟨ly, u0, u1, u2, u3, y0, y1, y2, y3, f0, f1, f2, f3⟩ := Any4.facts HY.out.2))
  all_goals
    go_wp2
    exact bodyPost_ret (v := .tuple #[.agg #[.bool n2, .int .u64 a2, .int .u64 b2, .int .i64 t], .int .i64 0]) (by simp [results, Tryd.results4, go_sem, y0, y1, y2, y3]) rfl ⟨_, ⟨_, _, _, HD2.out, rfl⟩, rfl, bel4 HY.out.1.1 hlg⟩
end Go.Proofs.YtkaflkofffgndaaDoor

/- quant: Div, of a small divisor. -/
import Derived.Test.YtkaflkofffgndaaDoorQuantD
import Derived.Test.YtkaflkofffgndaaDoorSubA
namespace Go.Proofs.YtkaflkofffgndaaDoor
open Go.RowKit
theorem hbA_keep {w0 w w' : World} {bs : List (Nat × TypeId × Array Value)} {g : Nat} {t : TypeId} {P : Prop} (hb : Below w.heap.size w w') (h : HB w0 bs w ∧ Any4 w g t ∧ P) : HB w0 bs w' ∧ Any4 w' g t := ⟨HB.below h.1 hb, h.2.1.below hb⟩
theorem hbA_set {w0 w : World} {bs : List (Nat × TypeId × Array Value)} {g : Nat} {t : TypeId} {p q r u : Value} (hp : w0.heap.size ≤ g) (hne : ∀ b ∈ bs, b.1 ≠ g) (h : HB w0 bs w ∧ Any4 w g t) : HB w0 bs ((((w.setCell ⟨g, 0, none⟩ p).setCell ⟨g, 1, none⟩ q).setCell ⟨g, 2, none⟩ r).setCell ⟨g, 3, none⟩ u) ∧ Any4 ((((w.setCell ⟨g, 0, none⟩ p).setCell ⟨g, 1, none⟩ q).setCell ⟨g, 2, none⟩ r).setCell ⟨g, 3, none⟩ u) g t :=
  ⟨HB.set_ (HB.set_ (HB.set_ (HB.set_ h.1 (p := ⟨g, 0, none⟩) hp hne _) (p := ⟨g, 1, none⟩) hp hne _) (p := ⟨g, 2, none⟩) hp hne _) (p := ⟨g, 3, none⟩) hp hne _, h.2.set4⟩
theorem dvMk {w0 w : World} {gd go gb ga ge : Nat} {e0 e1 o0 o1 : Int} {n : Bool} {a b s : Int} {n' : Bool} {a' b' s' : Int} (h : HB w0 [(gd, 25, #[.int .u64 e0, .int .u64 e1]), (go, 25, #[.int .u64 o0, .int .u64 o1]), (gb, 27, #[.bool n', .int .u64 a', .int .u64 b', .int .i64 s']), (ga, 27, #[.bool n, .int .u64 a, .int .u64 b, .int .i64 s])] w ∧ Any4 w ge 27) : HB w0 [(gd, 25, #[.int .u64 e0, .int .u64 e1]), (go, 25, #[.int .u64 o0, .int .u64 o1]), (gb, 27, #[.bool n', .int .u64 a', .int .u64 b', .int .i64 s']), (ga, 27, #[.bool n, .int .u64 a, .int .u64 b, .int .i64 s])] w ∧ Any4 w ge 27 ∧ (w.cell? ⟨gd, 0, none⟩ = some (.int .u64 e0) ∧ w.cell? ⟨gd, 1, none⟩ = some (.int .u64 e1)) ∧ (w.cell? ⟨go, 0, none⟩ = some (.int .u64 o0) ∧ w.cell? ⟨go, 1, none⟩ = some (.int .u64 o1)) ∧ (w.cell? ⟨gb, 0, none⟩ = some (.bool n') ∧ w.cell? ⟨gb, 1, none⟩ = some (.int .u64 a') ∧ w.cell? ⟨gb, 2, none⟩ = some (.int .u64 b') ∧ w.cell? ⟨gb, 3, none⟩ = some (.int .i64 s')) ∧ (w.cell? ⟨ga, 0, none⟩ = some (.bool n) ∧ w.cell? ⟨ga, 1, none⟩ = some (.int .u64 a) ∧ w.cell? ⟨ga, 2, none⟩ = some (.int .u64 b) ∧ w.cell? ⟨ga, 3, none⟩ = some (.int .i64 s)) :=
  ⟨h.1, h.2, (HB.two (t := 25) h.1 (by simp)).2, (HB.two (t := 25) h.1 (by simp)).2, (HB.dec (t := 27) h.1 (by simp)).2, (HB.dec (t := 27) h.1 (by simp)).2⟩
theorem d3Mk {w0 w : World} {ge gb ga : Nat} {n : Bool} {a b s : Int} {n' : Bool} {a' b' s' : Int} (h : HB w0 [(ge, 27, #[.bool false, .int .u64 0, .int .u64 0, .int .i64 0]), (gb, 27, #[.bool n', .int .u64 a', .int .u64 b', .int .i64 s']), (ga, 27, #[.bool n, .int .u64 a, .int .u64 b, .int .i64 s])] w) : HB w0 [(ge, 27, #[.bool false, .int .u64 0, .int .u64 0, .int .i64 0]), (gb, 27, #[.bool n', .int .u64 a', .int .u64 b', .int .i64 s']), (ga, 27, #[.bool n, .int .u64 a, .int .u64 b, .int .i64 s])] w ∧ (w.cell? ⟨gb, 0, none⟩ = some (.bool n') ∧ w.cell? ⟨gb, 1, none⟩ = some (.int .u64 a') ∧ w.cell? ⟨gb, 2, none⟩ = some (.int .u64 b') ∧ w.cell? ⟨gb, 3, none⟩ = some (.int .i64 s')) := ⟨h, (HB.dec (t := 27) h (by simp)).2⟩
/-- a by b with t places, rounded: its number. -/
def divN (n : Bool) (z s z' s' t mode : Int) : Nat := roundN n (z.natAbs * 10 ^ (t + s' - s).toNat) (z'.natAbs * 10 ^ (s - s' - t).toNat) mode
set_option maxRecDepth 100000 in
set_option maxHeartbeats 6400000 in
theorem div_q (n : Bool) (a b s z : Int) (n' : Bool) (a' b' s' z' t mode : Int) (w : World) (h : DecIs n a b z) (h' : DecIs n' a' b' z') (hz : z.natAbs < 1000000000000000000000000000000) (hz' : Sm z') (hz0 : z' ≠ 0) (h0 : 0 ≤ s) (h0' : 0 ≤ s') (h9 : s ≤ 9) (h9' : s' ≤ 9) (ht0 : 0 ≤ t) (ht9 : t ≤ 9) (hm : mode = 0 ∨ mode = 1 ∨ mode = 2 ∨ mode = 3 ∨ mode = 4)
    (N : Nat) (hN : divN (n != n') z s z' s' t mode = N) (hb30 : N < 1000000000000000000000000000000) :
    Calls Tryd.prog 6 #[.agg #[.bool n, .int .u64 a, .int .u64 b, .int .i64 s], .agg #[.bool n', .int .u64 a', .int .u64 b', .int .i64 s'], .int .i64 t, .int .i64 mode] w (Ret w (IsDecE (zOf (n != n') N) t 0)) := by
  have ha := h.2.1
  have hb1 := h.2.2.1
  have ha' := h'.2.1
  have hb1' := h'.2.2.1
  have hne : eqW2 a' b' 0 0 = false := by rw [eqW2_0 ha' hb1', h'.2.2.2]; exact decide_eq_false (by omega)
  have EA := Lib.hid h.2.2.2
  have EB := Lib.hid h'.2.2.2
  have HH := Lib.hid h
  have HH' := Lib.hid h'
  have HZ := Lib.hid hz
  have HZ' := Lib.hid (And.intro hz' hz0)
  have HM := Lib.hid hm
  have HN := Lib.hid (And.intro hN hb30)
  have hm0 : 0 ≤ mode ∧ mode ≤ 4 := by omega
  obtain ⟨m0, m4⟩ := hm0
  have hk1 : -9 ≤ t + s' - s := by omega
  have hk2 : t + s' - s ≤ 18 := by omega
  have hkn : (-(t + s' - s)).toNat = (s - s' - t).toNat := by omega
  have hk9 : (s - s' - t).toNat ≤ 9 := by omega
  have HK := Lib.hid (And.intro hkn hk9)
  clear h h' hz hz' hz0 hm hN hb30 hkn hk9
  have W : HB w [(w.heap.size + 1 + 1, 27, #[.bool false, .int .u64 0, .int .u64 0, .int .i64 0]), (w.heap.size + 1, 27, #[.bool n', .int .u64 a', .int .u64 b', .int .i64 s']), (w.heap.size, 27, #[.bool n, .int .u64 a, .int .u64 b, .int .i64 s])] (((w.alloc (.cells #[.bool n, .int .u64 a, .int .u64 b, .int .i64 s] 27)).alloc (.cells #[.bool n', .int .u64 a', .int .u64 b', .int .i64 s'] 27)).alloc (.cells #[.bool false, .int .u64 0, .int .u64 0, .int .i64 0] 27)) := by
    have h := (((HB.start (Below.refl _ w)).push #[.bool n, .int .u64 a, .int .u64 b, .int .i64 s] 27).push #[.bool n', .int .u64 a', .int .u64 b', .int .i64 s'] 27).push #[.bool false, .int .u64 0, .int .u64 0, .int .i64 0] 27
    simpa using h
  have hlg : w.heap.size ≤ w.heap.size + 1 + 1 := by omega
  go_enter Tryd.func6, Tryd.ntmps6
  go_wp2_with fail
  refine (right_d n a b s z _ HH.out HZ.out h0 h9).mono ?_
  rintro e w1 ⟨_, rfl, rfl, hb⟩
  replace W := W.below hb
  clear hb
  obtain ⟨lq, q0, q1, q2, q3⟩ := HB.dec (t := 27) (g := w.heap.size + 1) (a := .bool n') (b := .int .u64 a') (c := .int .u64 b') (d := .int .i64 s') W (by simp)
  go_wp2_with fail
  refine (right_d n' a' b' s' z' _ HH'.out (sm_30 HZ'.out.1) h0' h9').mono ?_
  rintro e w2 ⟨_, rfl, rfl, hb⟩
  replace W := W.below hb
  clear hb lq q0 q1 q2 q3
  go_wp2_with fail
  refine (qknown_c t mode _ ht0 ht9 m0 m4).mono ?_
  rintro e w2' ⟨_, rfl, rfl, hb⟩
  replace W := W.below hb
  clear hb
  obtain ⟨lq, q0, q1, q2, q3⟩ := HB.dec (t := 27) (g := w.heap.size + 1) (a := .bool n') (b := .int .u64 a') (c := .int .u64 b') (d := .int .i64 s') W (by simp)
  go_upto_region 3 with fail
  clear lq q0 q1 q2 q3
  go_region_held3 (fun w' => HB w [(w.heap.size + 1 + 1, 27, #[.bool false, .int .u64 0, .int .u64 0, .int .i64 0]), (w.heap.size + 1, 27, #[.bool n', .int .u64 a', .int .u64 b', .int .i64 s']), (w.heap.size, 27, #[.bool n, .int .u64 a, .int .u64 b, .int .i64 s])] w' ∧ (w'.cell? ⟨w.heap.size + 1, 0, none⟩ = some (.bool n') ∧ w'.cell? ⟨w.heap.size + 1, 1, none⟩ = some (.int .u64 a') ∧ w'.cell? ⟨w.heap.size + 1, 2, none⟩ = some (.int .u64 b') ∧ w'.cell? ⟨w.heap.size + 1, 3, none⟩ = some (.int .i64 s')))
    (first | exact d3Mk (HB.drew W) | exact d3Mk HX)
    (first | (go_at_call 12; (with_reducible refine (of_c 0 _).mono ?_); rintro e wx ⟨_, rfl, rfl, hbx⟩; have HX := keepB hbx (by assumption); clear hbx))
  clear W
  have W := HX
  clear HX
  rename_i hHeld
  clear hHeld
  obtain ⟨lq, q0, q1, q2, q3⟩ := HB.dec (t := 27) (g := w.heap.size + 1) (a := .bool n') (b := .int .u64 a') (c := .int .u64 b') (d := .int .i64 s') W (by simp)
  obtain ⟨lp, p0, p1, p2, p3⟩ := HB.dec (t := 27) (g := w.heap.size) (a := .bool n) (b := .int .u64 a) (c := .int .u64 b) (d := .int .i64 s) W (by simp)
  go_wp2_with fail
  refine (tens_c (t + s' - s) _ hk1 hk2).mono ?_
  rintro e w4 ⟨_, ⟨o0, o1, v0, v1, ⟨ho0, ho1, eo⟩, ⟨hv0, hv1, ev⟩, rfl⟩, rfl, hb⟩
  have hsz4 := Nat.le_trans W.1.size hb.size
  replace W := W.below hb
  clear hb lq q0 q1 q2 q3 lp p0 p1 p2 p3
  have hl3 := (HB.dec (t := 27) (g := w.heap.size + 1 + 1) (a := .bool false) (b := .int .u64 0) (c := .int .u64 0) (d := .int .i64 0) W (by simp)).1
  have EO := Lib.hid eo
  have EV := Lib.hid ev
  clear eo ev
  obtain ⟨lq, q0, q1, q2, q3⟩ := HB.dec (t := 27) (g := w.heap.size + 1) (a := .bool n') (b := .int .u64 a') (c := .int .u64 b') (d := .int .i64 s') W (by simp)
  have lq' : w.heap.size + 1 < w4.heap.size + 1 := by omega
  replace W := (W.push #[.int .u64 o0, .int .u64 o1] 25).push #[.int .u64 v0, .int .u64 v1] 25
  go_wp2_with fail
  refine (mul_c a' b' v0 v1 _ ha' hb1' hv0 hv1).mono ?_
  rintro e w5 ⟨_, ⟨c0, c1, c2, c3, HMu, rfl⟩, rfl, hb⟩
  have hsz5 := hb.size
  simp at hsz5
  replace W := W.below hb
  clear hb lq lq' q0 q1 q2 q3
  go_wp2_with fail
  refine (short_c c0 c1 c2 c3 _).mono ?_
  rintro e w6 ⟨_, ⟨e0, e1, p, HS, rfl⟩, rfl, hb⟩
  have hsz6 := hb.size
  replace W := W.below hb
  clear hb
  obtain ⟨rfl, he0, he1, ee⟩ := size_fin HZ'.out.1 HK.out.2 EB.out (EV.out.trans (by rw [HK.out.1])) HMu HS
  have EE := Lib.hid ee
  have hE0 : 0 < v2 e0 e1 := by
    rw [ee]
    exact Nat.mul_pos (Int.natAbs_pos.2 HZ'.out.2) (Nat.pow_pos (by decide))
  have HE0 := Lib.hid hE0
  clear HMu HS ee hE0
  replace W := W.push #[.int .u64 e0, .int .u64 e1] 25
  have A0 : Any4 (w6.alloc (.cells #[.int .u64 e0, .int .u64 e1] 25)) (w.heap.size + 1 + 1) 27 := ⟨_, _, _, _, HB.blk (g := w.heap.size + 1 + 1) (t := 27) (cs := #[.bool false, .int .u64 0, .int .u64 0, .int .i64 0]) W (by simp)⟩
  have V : HB w [(w6.heap.size, 25, #[.int .u64 e0, .int .u64 e1]), (w4.heap.size, 25, #[.int .u64 o0, .int .u64 o1]), (w.heap.size + 1, 27, #[.bool n', .int .u64 a', .int .u64 b', .int .i64 s']), (w.heap.size, 27, #[.bool n, .int .u64 a, .int .u64 b, .int .i64 s])] (w6.alloc (.cells #[.int .u64 e0, .int .u64 e1] 25)) := HB.sub W (by simp)
  have HV := Lib.hid (And.intro V A0)
  have hnes : ∀ b0 ∈ ([(w6.heap.size, 25, #[.int .u64 e0, .int .u64 e1]), (w4.heap.size, 25, #[.int .u64 o0, .int .u64 o1]), (w.heap.size + 1, 27, #[.bool n', .int .u64 a', .int .u64 b', .int .i64 s']), (w.heap.size, 27, #[.bool n, .int .u64 a, .int .u64 b, .int .i64 s])] : List (Nat × TypeId × Array Value)), b0.1 ≠ w.heap.size + 1 + 1 := by
    intro b0 hb
    simp at hb
    rcases hb with rfl | rfl | rfl | rfl <;> simp <;> omega
  have HNE := Lib.hid hnes
  have RC := Lib.hid (show ∀ (x0 x1 x2 x3 : Int) (wq : World), MulR a b o0 o1 x0 x1 x2 x3 → Calls Tryd.prog 18 #[.bool (!(n == n')), .agg #[.int .u64 x0, .int .u64 x1, .int .u64 x2, .int .u64 x3], .agg #[.int .u64 e0, .int .u64 e1], .int .i64 t, .int .i64 mode] wq (Ret wq (IsDecE (zOf (n != n') N) t 0)) from fun x0 x1 x2 x3 wq hM =>
    rounded_c (n != n') x0 x1 x2 x3 e0 e1 t mode wq hM.1 hM.2.1 hM.2.2.1 hM.2.2.2.1 he0 he1 HE0.out ht0 ht9 HM.out N (by
      rw [hM.2.2.2.2, EA.out, EO.out, EE.out]
      exact HN.out.1) HN.out.2)
  clear W V A0 hnes
  go_upto_region 9 with fail
  go_region_held3 (fun w' => HB w [(w6.heap.size, 25, #[.int .u64 e0, .int .u64 e1]), (w4.heap.size, 25, #[.int .u64 o0, .int .u64 o1]), (w.heap.size + 1, 27, #[.bool n', .int .u64 a', .int .u64 b', .int .i64 s']), (w.heap.size, 27, #[.bool n, .int .u64 a, .int .u64 b, .int .i64 s])] w' ∧ Any4 w' (w.heap.size + 1 + 1) 27 ∧ (w'.cell? ⟨w6.heap.size, 0, none⟩ = some (.int .u64 e0) ∧ w'.cell? ⟨w6.heap.size, 1, none⟩ = some (.int .u64 e1)) ∧ (w'.cell? ⟨w4.heap.size, 0, none⟩ = some (.int .u64 o0) ∧ w'.cell? ⟨w4.heap.size, 1, none⟩ = some (.int .u64 o1)) ∧ (w'.cell? ⟨w.heap.size + 1, 0, none⟩ = some (.bool n') ∧ w'.cell? ⟨w.heap.size + 1, 1, none⟩ = some (.int .u64 a') ∧ w'.cell? ⟨w.heap.size + 1, 2, none⟩ = some (.int .u64 b') ∧ w'.cell? ⟨w.heap.size + 1, 3, none⟩ = some (.int .i64 s')) ∧ (w'.cell? ⟨w.heap.size, 0, none⟩ = some (.bool n) ∧ w'.cell? ⟨w.heap.size, 1, none⟩ = some (.int .u64 a) ∧ w'.cell? ⟨w.heap.size, 2, none⟩ = some (.int .u64 b) ∧ w'.cell? ⟨w.heap.size, 3, none⟩ = some (.int .i64 s)))
    (first
      | exact dvMk ⟨HB.drew HV.out.1, HV.out.2⟩
      | exact dvMk HY.out
      | exact dvMk HX.out
      | exact dvMk (hbA_set hlg HNE.out HY.out))
    (first
      | (go_at_call 17; (with_reducible refine (mul_c a b o0 o1 _ ha hb1 ho0 ho1).mono ?_); rintro e wx ⟨_, ⟨x0, x1, x2, x3, HMv, rfl⟩, rfl, hbx⟩; have HX := Lib.hid (hbA_keep hbx (by assumption)); have HMV := Lib.hid HMv; clear hbx HMv)
      | (go_at_call 18; (with_reducible refine (RC.out x0 x1 x2 x3 _ HMV.out).mono ?_); rintro e wy ⟨_, ⟨n2, a2, b2, D2, rfl⟩, rfl, hby⟩; have HY := Lib.hid (hbA_keep hby (by assumption)); have HD2 := Lib.hid D2; clear D2 hby; obtain ⟨ly, u0, u1, u2, u3, y0, y1, y2, y3, f0, f1, f2, f3⟩ := Any4.facts HY.out.2))
  all_goals
    go_wp2
    exact bodyPost_ret (v := .tuple #[.agg #[.bool n2, .int .u64 a2, .int .u64 b2, .int .i64 t], .int .i64 0]) (by simp [results, Tryd.results6, go_sem, y0, y1, y2, y3]) rfl ⟨_, ⟨_, _, _, HD2.out, rfl⟩, rfl, bel4 HY.out.1.1 hlg⟩
end Go.Proofs.YtkaflkofffgndaaDoor

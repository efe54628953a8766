/- Package pyxref1 at any decimals: Cmp, Add, Sub, Mul, Scaled. -/
import Derived.Test.YtlhceelkefgjhaaGreatDoorRefQ
import Derived.Test.YtlhceelkefgjhaaGreatDoorCmpA
import Derived.Test.YtlhceelkefgjhaaGreatDoorOrd
namespace Go.Proofs.YtlhceelkefgjhaaGreatDoor
open Go.RowKit
theorem blk_cells {w : World} {g : Nat} {t : TypeId} {a b c d : Value} (h : Blk w g t #[a, b, c, d]) : g < w.heap.size ∧ (w.cell? ⟨g, 0, none⟩ = some a ∧ w.cell? ⟨g, 1, none⟩ = some b ∧ w.cell? ⟨g, 2, none⟩ = some c ∧ w.cell? ⟨g, 3, none⟩ = some d) ∧ w.frozen? ⟨g, 0, none⟩ = false ∧ w.frozen? ⟨g, 1, none⟩ = false ∧ w.frozen? ⟨g, 2, none⟩ = false ∧ w.frozen? ⟨g, 3, none⟩ = false := by
  have x0 := h.cell 0
  have x1 := h.cell 1
  have x2 := h.cell 2
  have x3 := h.cell 3
  simp at x0 x1 x2 x3
  exact ⟨h.lt, ⟨x0, x1, x2, x3⟩, h.frozen 0, h.frozen 1, h.frozen 2, h.frozen 3⟩
theorem cmpNat_v (A B : Option Addr) (n m ca cb : Nat) (a b : List Nat) (c : Int) (w : World) (ha : DigC w A n ca a) (hb : DigC w B m cb b) (na : Norm a) (nb : Norm b) (hc : cmpI (dv a) (dv b) = c) :
    Calls Tryz.prog 40 #[.slice A n ca, .slice B m cb] w (Ret w (· = .int .i64 c)) := by
  subst hc
  exact cmpNat_c A B n m ca cb a b w ha hb na nb
theorem rsign_v (n : Bool) (a b s c : Int) (w : World) (ha : U64 a) (hb1 : U64 b) (hc : signV n a b s = c) :
    Calls Tryz.prog 23 #[.agg #[.bool n, .int .u64 a, .int .u64 b, .int .i64 s]] w (Ret w (· = .int .i64 c)) := by
  subst hc
  exact rsign_all n a b s w ha hb1
theorem rdigits_v (n : Bool) (a b s t : Int) (M : Nat) (w : World) (ha : U64 a) (hb1 : U64 b) (h0 : 0 ≤ s) (hst : s ≤ t) (h9 : t ≤ 9) (hM : upW a b s t = M) :
    Calls Tryz.prog 37 #[.agg #[.bool n, .int .u64 a, .int .u64 b, .int .i64 s], .int .i64 t] w (RetN w M) := by
  subst hM
  exact rdigits_c n a b s t w ha hb1 h0 hst h9
theorem up_50 {a b s t : Int} (ha : U64 a) (hb : U64 b) (h : t - s ≤ 9) : upW a b s t < 10 ^ 50 := by
  unfold upW
  have h1 := v2_40 ha hb
  have h2 : 10 ^ (t - s).toNat ≤ 10 ^ 9 := Nat.pow_le_pow_right (by decide) (by omega)
  have h3 : v2 a b * 10 ^ (t - s).toNat < 10 ^ 40 * 10 ^ 9 := Nat.mul_lt_mul_of_lt_of_le h1 h2 (by decide)
  exact Nat.lt_trans h3 (by decide)
theorem cm_mk {w0 w1 : World} {g : Nat} {n : Bool} {a b s : Int} {n' : Bool} {a' b' s' : Int} (h : Sub2 w0 g n a b s n' a' b' s' w1) : Sub2 w0 g n a b s n' a' b' s' w1 ∧ (w1.cell? ⟨g, 0, none⟩ = some (.bool n) ∧ w1.cell? ⟨g, 1, none⟩ = some (.int .u64 a) ∧ w1.cell? ⟨g, 2, none⟩ = some (.int .u64 b) ∧ w1.cell? ⟨g, 3, none⟩ = some (.int .i64 s)) ∧ (w1.cell? ⟨g + 1, 0, none⟩ = some (.bool n') ∧ w1.cell? ⟨g + 1, 1, none⟩ = some (.int .u64 a') ∧ w1.cell? ⟨g + 1, 2, none⟩ = some (.int .u64 b') ∧ w1.cell? ⟨g + 1, 3, none⟩ = some (.int .i64 s')) :=
  ⟨h, (HB.dec (t := 25) h (by simp)).2, (HB.dec (t := 25) h (by simp)).2⟩
theorem cm_keep {w0 w w' : World} {g : Nat} {n : Bool} {a b s : Int} {n' : Bool} {a' b' s' : Int} {P : Prop} (hb : Below w.heap.size w w') (h : Sub2 w0 g n a b s n' a' b' s' w ∧ P) : Sub2 w0 g n a b s n' a' b' s' w' := HB.below h.1 hb
theorem sc_mk {w0 w1 : World} {n : Bool} {a b s : Int} (h : DS w0 n a b s w1) (A : Any4 w1 (w0.heap.size + 1) 25) : DS w0 n a b s w1 ∧ Any4 w1 (w0.heap.size + 1) 25 ∧ (w1.cell? ⟨w0.heap.size, 0, none⟩ = some (.bool n) ∧ w1.cell? ⟨w0.heap.size, 1, none⟩ = some (.int .u64 a) ∧ w1.cell? ⟨w0.heap.size, 2, none⟩ = some (.int .u64 b) ∧ w1.cell? ⟨w0.heap.size, 3, none⟩ = some (.int .i64 s)) :=
  ⟨h, A, (HB.dec (t := 25) h (by simp)).2⟩
theorem sc_keep {w0 w w' : World} {n : Bool} {a b s : Int} {P : Prop} (hb : Below w.heap.size w w') (h : DS w0 n a b s w ∧ Any4 w (w0.heap.size + 1) 25 ∧ P) : DS w0 n a b s w' ∧ Any4 w' (w0.heap.size + 1) 25 := ⟨HB.below h.1 hb, h.2.1.below hb⟩
theorem sc_set {w0 w : World} {n : Bool} {a b s : Int} {p q r t : Value} (h : DS w0 n a b s w ∧ Any4 w (w0.heap.size + 1) 25) : DS w0 n a b s ((((w.setCell ⟨w0.heap.size + 1, 0, none⟩ p).setCell ⟨w0.heap.size + 1, 1, none⟩ q).setCell ⟨w0.heap.size + 1, 2, none⟩ r).setCell ⟨w0.heap.size + 1, 3, none⟩ t) ∧ Any4 ((((w.setCell ⟨w0.heap.size + 1, 0, none⟩ p).setCell ⟨w0.heap.size + 1, 1, none⟩ q).setCell ⟨w0.heap.size + 1, 2, none⟩ r).setCell ⟨w0.heap.size + 1, 3, none⟩ t) (w0.heap.size + 1) 25 := by
  have hp : w0.heap.size ≤ w0.heap.size + 1 := by omega
  have hne : ∀ b0 ∈ [(w0.heap.size, (25 : TypeId), (#[.bool n, .int .u64 a, .int .u64 b, .int .i64 s] : Array Value))], b0.1 ≠ w0.heap.size + 1 := by
    intro b0 hb
    simp at hb
    rcases hb with rfl
    simp
  exact ⟨HB.set_ (HB.set_ (HB.set_ (HB.set_ h.1 (p := ⟨w0.heap.size + 1, 0, none⟩) hp hne _) (p := ⟨w0.heap.size + 1, 1, none⟩) hp hne _) (p := ⟨w0.heap.size + 1, 2, none⟩) hp hne _) (p := ⟨w0.heap.size + 1, 3, none⟩) hp hne _, h.2.set4⟩
set_option maxRecDepth 100000 in
set_option maxHeartbeats 3200000 in
theorem rcmp_no0 (n : Bool) (a b s : Int) (n' : Bool) (a' b' s' : Int) (w : World) (ha : U64 a) (hb1 : U64 b) (hr : ¬ RightD n a b s) :
    Calls Tryz.prog 25 #[.agg #[.bool n, .int .u64 a, .int .u64 b, .int .i64 s], .agg #[.bool n', .int .u64 a', .int .u64 b', .int .i64 s']] w (Ret w (IsInt 0)) := by
  have W : HB w [(w.heap.size + 1, 25, #[.bool n', .int .u64 a', .int .u64 b', .int .i64 s']), (w.heap.size, 25, #[.bool n, .int .u64 a, .int .u64 b, .int .i64 s])] ((w.alloc (.cells #[.bool n, .int .u64 a, .int .u64 b, .int .i64 s] 25)).alloc (.cells #[.bool n', .int .u64 a', .int .u64 b', .int .i64 s'] 25)) := by
    have h := ((HB.start (Below.refl _ w)).push #[.bool n, .int .u64 a, .int .u64 b, .int .i64 s] 25).push #[.bool n', .int .u64 a', .int .u64 b', .int .i64 s'] 25
    simpa using h
  have HR := Lib.hid (decide_eq_false hr)
  clear hr
  go_enter Tryz.func25, Tryz.ntmps25
  go_wp2_with fail
  refine (rdec_v n a b s false _ ha hb1 HR.out).mono ?_
  rintro e w1 ⟨_, rfl, rfl, hb⟩
  replace W := W.below hb
  clear hb
  have HB1 := Lib.hid W.1
  clear W
  go_wp2
  go_ret
  exact ⟨_, rfl, rfl, HB1.out⟩
set_option maxRecDepth 100000 in
set_option maxHeartbeats 3200000 in
theorem rcmp_no1 (n : Bool) (a b s : Int) (n' : Bool) (a' b' s' : Int) (w : World) (ha : U64 a) (hb1 : U64 b) (ha' : U64 a') (hb1' : U64 b') (hr : RightD n a b s) (hr' : ¬ RightD n' a' b' s') :
    Calls Tryz.prog 25 #[.agg #[.bool n, .int .u64 a, .int .u64 b, .int .i64 s], .agg #[.bool n', .int .u64 a', .int .u64 b', .int .i64 s']] w (Ret w (IsInt 0)) := by
  have W : HB w [(w.heap.size + 1, 25, #[.bool n', .int .u64 a', .int .u64 b', .int .i64 s']), (w.heap.size, 25, #[.bool n, .int .u64 a, .int .u64 b, .int .i64 s])] ((w.alloc (.cells #[.bool n, .int .u64 a, .int .u64 b, .int .i64 s] 25)).alloc (.cells #[.bool n', .int .u64 a', .int .u64 b', .int .i64 s'] 25)) := by
    have h := ((HB.start (Below.refl _ w)).push #[.bool n, .int .u64 a, .int .u64 b, .int .i64 s] 25).push #[.bool n', .int .u64 a', .int .u64 b', .int .i64 s'] 25
    simpa using h
  have HR := Lib.hid (decide_eq_true hr)
  clear hr
  have HR' := Lib.hid (decide_eq_false hr')
  clear hr'
  go_enter Tryz.func25, Tryz.ntmps25
  go_wp2_with fail
  refine (rdec_v n a b s true _ ha hb1 HR.out).mono ?_
  rintro e w1 ⟨_, rfl, rfl, hb⟩
  replace W := W.below hb
  clear hb
  obtain ⟨lq, q0, q1, q2, q3⟩ := HB.dec (t := 25) (g := w.heap.size + 1) (a := .bool n') (b := .int .u64 a') (c := .int .u64 b') (d := .int .i64 s') W (by simp)
  go_wp2_with fail
  refine (rdec_v n' a' b' s' false _ ha' hb1' HR'.out).mono ?_
  rintro e w2 ⟨_, rfl, rfl, hb⟩
  replace W := W.below hb
  clear hb lq q0 q1 q2 q3
  have HB1 := Lib.hid W.1
  clear W
  go_wp2
  go_ret
  exact ⟨_, rfl, rfl, HB1.out⟩
set_option maxRecDepth 100000 in
set_option maxHeartbeats 3200000 in
theorem radd_no0 (n : Bool) (a b s : Int) (n' : Bool) (a' b' s' : Int) (w : World) (ha : U64 a) (hb1 : U64 b) (hr : ¬ RightD n a b s) :
    Calls Tryz.prog 10 #[.agg #[.bool n, .int .u64 a, .int .u64 b, .int .i64 s], .agg #[.bool n', .int .u64 a', .int .u64 b', .int .i64 s']] w (Ret w (Ans (errV 1))) := by
  have W : HB w [(w.heap.size + 1 + 1, 25, #[.bool false, .int .u64 0, .int .u64 0, .int .i64 0]), (w.heap.size + 1, 25, #[.bool n', .int .u64 a', .int .u64 b', .int .i64 s']), (w.heap.size, 25, #[.bool n, .int .u64 a, .int .u64 b, .int .i64 s])] (((w.alloc (.cells #[.bool n, .int .u64 a, .int .u64 b, .int .i64 s] 25)).alloc (.cells #[.bool n', .int .u64 a', .int .u64 b', .int .i64 s'] 25)).alloc (.cells #[.bool false, .int .u64 0, .int .u64 0, .int .i64 0] 25)) := by
    have h := (((HB.start (Below.refl _ w)).push #[.bool n, .int .u64 a, .int .u64 b, .int .i64 s] 25).push #[.bool n', .int .u64 a', .int .u64 b', .int .i64 s'] 25).push #[.bool false, .int .u64 0, .int .u64 0, .int .i64 0] 25
    simpa using h
  have hlg : w.heap.size ≤ w.heap.size + 1 + 1 := by omega
  have HR := Lib.hid (decide_eq_false hr)
  clear hr
  go_enter Tryz.func10, Tryz.ntmps10
  go_wp2_with fail
  refine (rdec_v n a b s false _ ha hb1 HR.out).mono ?_
  rintro e w1 ⟨_, rfl, rfl, hb⟩
  replace W := W.below hb
  clear hb
  obtain ⟨lq, q0, q1, q2, q3⟩ := HB.dec (t := 25) (g := w.heap.size + 1 + 1) (a := .bool false) (b := .int .u64 0) (c := .int .u64 0) (d := .int .i64 0) W (by simp)
  have Bz := HB.blk (g := w.heap.size + 1 + 1) (t := 25) (cs := #[.bool false, .int .u64 0, .int .u64 0, .int .i64 0]) W (by simp)
  have fz0 := Bz.frozen 0
  have fz1 := Bz.frozen 1
  have fz2 := Bz.frozen 2
  have fz3 := Bz.frozen 3
  clear Bz
  have HB1 := Lib.hid W.1
  clear W
  go_wp2
  exact bodyPost_ret (v := .tuple #[.agg #[.bool false, .int .u64 0, .int .u64 0, .int .i64 0], .int .i64 1]) (by simp [results, Tryz.results10, go_sem, q0, q1, q2, q3]) rfl ⟨_, ans_err 1, rfl, bel4 HB1.out hlg⟩
set_option maxRecDepth 100000 in
set_option maxHeartbeats 3200000 in
theorem radd_no1 (n : Bool) (a b s : Int) (n' : Bool) (a' b' s' : Int) (w : World) (ha : U64 a) (hb1 : U64 b) (ha' : U64 a') (hb1' : U64 b') (hr : RightD n a b s) (hr' : ¬ RightD n' a' b' s') :
    Calls Tryz.prog 10 #[.agg #[.bool n, .int .u64 a, .int .u64 b, .int .i64 s], .agg #[.bool n', .int .u64 a', .int .u64 b', .int .i64 s']] w (Ret w (Ans (errV 1))) := by
  have W : HB w [(w.heap.size + 1 + 1, 25, #[.bool false, .int .u64 0, .int .u64 0, .int .i64 0]), (w.heap.size + 1, 25, #[.bool n', .int .u64 a', .int .u64 b', .int .i64 s']), (w.heap.size, 25, #[.bool n, .int .u64 a, .int .u64 b, .int .i64 s])] (((w.alloc (.cells #[.bool n, .int .u64 a, .int .u64 b, .int .i64 s] 25)).alloc (.cells #[.bool n', .int .u64 a', .int .u64 b', .int .i64 s'] 25)).alloc (.cells #[.bool false, .int .u64 0, .int .u64 0, .int .i64 0] 25)) := by
    have h := (((HB.start (Below.refl _ w)).push #[.bool n, .int .u64 a, .int .u64 b, .int .i64 s] 25).push #[.bool n', .int .u64 a', .int .u64 b', .int .i64 s'] 25).push #[.bool false, .int .u64 0, .int .u64 0, .int .i64 0] 25
    simpa using h
  have hlg : w.heap.size ≤ w.heap.size + 1 + 1 := by omega
  have HR := Lib.hid (decide_eq_true hr)
  clear hr
  have HR' := Lib.hid (decide_eq_false hr')
  clear hr'
  go_enter Tryz.func10, Tryz.ntmps10
  go_wp2_with fail
  refine (rdec_v n a b s true _ ha hb1 HR.out).mono ?_
  rintro e w1 ⟨_, rfl, rfl, hb⟩
  replace W := W.below hb
  clear hb
  obtain ⟨lq, q0, q1, q2, q3⟩ := HB.dec (t := 25) (g := w.heap.size + 1) (a := .bool n') (b := .int .u64 a') (c := .int .u64 b') (d := .int .i64 s') W (by simp)
  go_wp2_with fail
  refine (rdec_v n' a' b' s' false _ ha' hb1' HR'.out).mono ?_
  rintro e w2 ⟨_, rfl, rfl, hb⟩
  replace W := W.below hb
  clear hb lq q0 q1 q2 q3
  obtain ⟨lq, q0, q1, q2, q3⟩ := HB.dec (t := 25) (g := w.heap.size + 1 + 1) (a := .bool false) (b := .int .u64 0) (c := .int .u64 0) (d := .int .i64 0) W (by simp)
  have Bz := HB.blk (g := w.heap.size + 1 + 1) (t := 25) (cs := #[.bool false, .int .u64 0, .int .u64 0, .int .i64 0]) W (by simp)
  have fz0 := Bz.frozen 0
  have fz1 := Bz.frozen 1
  have fz2 := Bz.frozen 2
  have fz3 := Bz.frozen 3
  clear Bz
  have HB1 := Lib.hid W.1
  clear W
  go_wp2
  exact bodyPost_ret (v := .tuple #[.agg #[.bool false, .int .u64 0, .int .u64 0, .int .i64 0], .int .i64 1]) (by simp [results, Tryz.results10, go_sem, q0, q1, q2, q3]) rfl ⟨_, ans_err 1, rfl, bel4 HB1.out hlg⟩
set_option maxRecDepth 100000 in
set_option maxHeartbeats 3200000 in
theorem rsub_no0 (n : Bool) (a b s : Int) (n' : Bool) (a' b' s' : Int) (w : World) (ha : U64 a) (hb1 : U64 b) (hr : ¬ RightD n a b s) :
    Calls Tryz.prog 11 #[.agg #[.bool n, .int .u64 a, .int .u64 b, .int .i64 s], .agg #[.bool n', .int .u64 a', .int .u64 b', .int .i64 s']] w (Ret w (Ans (errV 1))) := by
  have W : HB w [(w.heap.size + 1 + 1, 25, #[.bool false, .int .u64 0, .int .u64 0, .int .i64 0]), (w.heap.size + 1, 25, #[.bool n', .int .u64 a', .int .u64 b', .int .i64 s']), (w.heap.size, 25, #[.bool n, .int .u64 a, .int .u64 b, .int .i64 s])] (((w.alloc (.cells #[.bool n, .int .u64 a, .int .u64 b, .int .i64 s] 25)).alloc (.cells #[.bool n', .int .u64 a', .int .u64 b', .int .i64 s'] 25)).alloc (.cells #[.bool false, .int .u64 0, .int .u64 0, .int .i64 0] 25)) := by
    have h := (((HB.start (Below.refl _ w)).push #[.bool n, .int .u64 a, .int .u64 b, .int .i64 s] 25).push #[.bool n', .int .u64 a', .int .u64 b', .int .i64 s'] 25).push #[.bool false, .int .u64 0, .int .u64 0, .int .i64 0] 25
    simpa using h
  have hlg : w.heap.size ≤ w.heap.size + 1 + 1 := by omega
  have HR := Lib.hid (decide_eq_false hr)
  clear hr
  go_enter Tryz.func11, Tryz.ntmps11
  go_wp2_with fail
  refine (rdec_v n a b s false _ ha hb1 HR.out).mono ?_
  rintro e w1 ⟨_, rfl, rfl, hb⟩
  replace W := W.below hb
  clear hb
  obtain ⟨lq, q0, q1, q2, q3⟩ := HB.dec (t := 25) (g := w.heap.size + 1 + 1) (a := .bool false) (b := .int .u64 0) (c := .int .u64 0) (d := .int .i64 0) W (by simp)
  have Bz := HB.blk (g := w.heap.size + 1 + 1) (t := 25) (cs := #[.bool false, .int .u64 0, .int .u64 0, .int .i64 0]) W (by simp)
  have fz0 := Bz.frozen 0
  have fz1 := Bz.frozen 1
  have fz2 := Bz.frozen 2
  have fz3 := Bz.frozen 3
  clear Bz
  have HB1 := Lib.hid W.1
  clear W
  go_wp2
  exact bodyPost_ret (v := .tuple #[.agg #[.bool false, .int .u64 0, .int .u64 0, .int .i64 0], .int .i64 1]) (by simp [results, Tryz.results11, go_sem, q0, q1, q2, q3]) rfl ⟨_, ans_err 1, rfl, bel4 HB1.out hlg⟩
set_option maxRecDepth 100000 in
set_option maxHeartbeats 3200000 in
theorem rsub_no1 (n : Bool) (a b s : Int) (n' : Bool) (a' b' s' : Int) (w : World) (ha : U64 a) (hb1 : U64 b) (ha' : U64 a') (hb1' : U64 b') (hr : RightD n a b s) (hr' : ¬ RightD n' a' b' s') :
    Calls Tryz.prog 11 #[.agg #[.bool n, .int .u64 a, .int .u64 b, .int .i64 s], .agg #[.bool n', .int .u64 a', .int .u64 b', .int .i64 s']] w (Ret w (Ans (errV 1))) := by
  have W : HB w [(w.heap.size + 1 + 1, 25, #[.bool false, .int .u64 0, .int .u64 0, .int .i64 0]), (w.heap.size + 1, 25, #[.bool n', .int .u64 a', .int .u64 b', .int .i64 s']), (w.heap.size, 25, #[.bool n, .int .u64 a, .int .u64 b, .int .i64 s])] (((w.alloc (.cells #[.bool n, .int .u64 a, .int .u64 b, .int .i64 s] 25)).alloc (.cells #[.bool n', .int .u64 a', .int .u64 b', .int .i64 s'] 25)).alloc (.cells #[.bool false, .int .u64 0, .int .u64 0, .int .i64 0] 25)) := by
    have h := (((HB.start (Below.refl _ w)).push #[.bool n, .int .u64 a, .int .u64 b, .int .i64 s] 25).push #[.bool n', .int .u64 a', .int .u64 b', .int .i64 s'] 25).push #[.bool false, .int .u64 0, .int .u64 0, .int .i64 0] 25
    simpa using h
  have hlg : w.heap.size ≤ w.heap.size + 1 + 1 := by omega
  have HR := Lib.hid (decide_eq_true hr)
  clear hr
  have HR' := Lib.hid (decide_eq_false hr')
  clear hr'
  go_enter Tryz.func11, Tryz.ntmps11
  go_wp2_with fail
  refine (rdec_v n a b s true _ ha hb1 HR.out).mono ?_
  rintro e w1 ⟨_, rfl, rfl, hb⟩
  replace W := W.below hb
  clear hb
  obtain ⟨lq, q0, q1, q2, q3⟩ := HB.dec (t := 25) (g := w.heap.size + 1) (a := .bool n') (b := .int .u64 a') (c := .int .u64 b') (d := .int .i64 s') W (by simp)
  go_wp2_with fail
  refine (rdec_v n' a' b' s' false _ ha' hb1' HR'.out).mono ?_
  rintro e w2 ⟨_, rfl, rfl, hb⟩
  replace W := W.below hb
  clear hb lq q0 q1 q2 q3
  obtain ⟨lq, q0, q1, q2, q3⟩ := HB.dec (t := 25) (g := w.heap.size + 1 + 1) (a := .bool false) (b := .int .u64 0) (c := .int .u64 0) (d := .int .i64 0) W (by simp)
  have Bz := HB.blk (g := w.heap.size + 1 + 1) (t := 25) (cs := #[.bool false, .int .u64 0, .int .u64 0, .int .i64 0]) W (by simp)
  have fz0 := Bz.frozen 0
  have fz1 := Bz.frozen 1
  have fz2 := Bz.frozen 2
  have fz3 := Bz.frozen 3
  clear Bz
  have HB1 := Lib.hid W.1
  clear W
  go_wp2
  exact bodyPost_ret (v := .tuple #[.agg #[.bool false, .int .u64 0, .int .u64 0, .int .i64 0], .int .i64 1]) (by simp [results, Tryz.results11, go_sem, q0, q1, q2, q3]) rfl ⟨_, ans_err 1, rfl, bel4 HB1.out hlg⟩
set_option maxRecDepth 100000 in
set_option maxHeartbeats 3200000 in
theorem rmul_no0 (n : Bool) (a b s : Int) (n' : Bool) (a' b' s' : Int) (w : World) (ha : U64 a) (hb1 : U64 b) (hr : ¬ RightD n a b s) :
    Calls Tryz.prog 12 #[.agg #[.bool n, .int .u64 a, .int .u64 b, .int .i64 s], .agg #[.bool n', .int .u64 a', .int .u64 b', .int .i64 s']] w (Ret w (Ans (errV 1))) := by
  have W : HB w [(w.heap.size + 1 + 1, 25, #[.bool false, .int .u64 0, .int .u64 0, .int .i64 0]), (w.heap.size + 1, 25, #[.bool n', .int .u64 a', .int .u64 b', .int .i64 s']), (w.heap.size, 25, #[.bool n, .int .u64 a, .int .u64 b, .int .i64 s])] (((w.alloc (.cells #[.bool n, .int .u64 a, .int .u64 b, .int .i64 s] 25)).alloc (.cells #[.bool n', .int .u64 a', .int .u64 b', .int .i64 s'] 25)).alloc (.cells #[.bool false, .int .u64 0, .int .u64 0, .int .i64 0] 25)) := by
    have h := (((HB.start (Below.refl _ w)).push #[.bool n, .int .u64 a, .int .u64 b, .int .i64 s] 25).push #[.bool n', .int .u64 a', .int .u64 b', .int .i64 s'] 25).push #[.bool false, .int .u64 0, .int .u64 0, .int .i64 0] 25
    simpa using h
  have hlg : w.heap.size ≤ w.heap.size + 1 + 1 := by omega
  have HR := Lib.hid (decide_eq_false hr)
  clear hr
  go_enter Tryz.func12, Tryz.ntmps12
  go_wp2_with fail
  refine (rdec_v n a b s false _ ha hb1 HR.out).mono ?_
  rintro e w1 ⟨_, rfl, rfl, hb⟩
  replace W := W.below hb
  clear hb
  obtain ⟨lq, q0, q1, q2, q3⟩ := HB.dec (t := 25) (g := w.heap.size + 1 + 1) (a := .bool false) (b := .int .u64 0) (c := .int .u64 0) (d := .int .i64 0) W (by simp)
  have Bz := HB.blk (g := w.heap.size + 1 + 1) (t := 25) (cs := #[.bool false, .int .u64 0, .int .u64 0, .int .i64 0]) W (by simp)
  have fz0 := Bz.frozen 0
  have fz1 := Bz.frozen 1
  have fz2 := Bz.frozen 2
  have fz3 := Bz.frozen 3
  clear Bz
  have HB1 := Lib.hid W.1
  clear W
  go_wp2
  exact bodyPost_ret (v := .tuple #[.agg #[.bool false, .int .u64 0, .int .u64 0, .int .i64 0], .int .i64 1]) (by simp [results, Tryz.results12, go_sem, q0, q1, q2, q3]) rfl ⟨_, ans_err 1, rfl, bel4 HB1.out hlg⟩
set_option maxRecDepth 100000 in
set_option maxHeartbeats 3200000 in
theorem rmul_no1 (n : Bool) (a b s : Int) (n' : Bool) (a' b' s' : Int) (w : World) (ha : U64 a) (hb1 : U64 b) (ha' : U64 a') (hb1' : U64 b') (hr : RightD n a b s) (hr' : ¬ RightD n' a' b' s') :
    Calls Tryz.prog 12 #[.agg #[.bool n, .int .u64 a, .int .u64 b, .int .i64 s], .agg #[.bool n', .int .u64 a', .int .u64 b', .int .i64 s']] w (Ret w (Ans (errV 1))) := by
  have W : HB w [(w.heap.size + 1 + 1, 25, #[.bool false, .int .u64 0, .int .u64 0, .int .i64 0]), (w.heap.size + 1, 25, #[.bool n', .int .u64 a', .int .u64 b', .int .i64 s']), (w.heap.size, 25, #[.bool n, .int .u64 a, .int .u64 b, .int .i64 s])] (((w.alloc (.cells #[.bool n, .int .u64 a, .int .u64 b, .int .i64 s] 25)).alloc (.cells #[.bool n', .int .u64 a', .int .u64 b', .int .i64 s'] 25)).alloc (.cells #[.bool false, .int .u64 0, .int .u64 0, .int .i64 0] 25)) := by
    have h := (((HB.start (Below.refl _ w)).push #[.bool n, .int .u64 a, .int .u64 b, .int .i64 s] 25).push #[.bool n', .int .u64 a', .int .u64 b', .int .i64 s'] 25).push #[.bool false, .int .u64 0, .int .u64 0, .int .i64 0] 25
    simpa using h
  have hlg : w.heap.size ≤ w.heap.size + 1 + 1 := by omega
  have HR := Lib.hid (decide_eq_true hr)
  clear hr
  have HR' := Lib.hid (decide_eq_false hr')
  clear hr'
  go_enter Tryz.func12, Tryz.ntmps12
  go_wp2_with fail
  refine (rdec_v n a b s true _ ha hb1 HR.out).mono ?_
  rintro e w1 ⟨_, rfl, rfl, hb⟩
  replace W := W.below hb
  clear hb
  obtain ⟨lq, q0, q1, q2, q3⟩ := HB.dec (t := 25) (g := w.heap.size + 1) (a := .bool n') (b := .int .u64 a') (c := .int .u64 b') (d := .int .i64 s') W (by simp)
  go_wp2_with fail
  refine (rdec_v n' a' b' s' false _ ha' hb1' HR'.out).mono ?_
  rintro e w2 ⟨_, rfl, rfl, hb⟩
  replace W := W.below hb
  clear hb lq q0 q1 q2 q3
  obtain ⟨lq, q0, q1, q2, q3⟩ := HB.dec (t := 25) (g := w.heap.size + 1 + 1) (a := .bool false) (b := .int .u64 0) (c := .int .u64 0) (d := .int .i64 0) W (by simp)
  have Bz := HB.blk (g := w.heap.size + 1 + 1) (t := 25) (cs := #[.bool false, .int .u64 0, .int .u64 0, .int .i64 0]) W (by simp)
  have fz0 := Bz.frozen 0
  have fz1 := Bz.frozen 1
  have fz2 := Bz.frozen 2
  have fz3 := Bz.frozen 3
  clear Bz
  have HB1 := Lib.hid W.1
  clear W
  go_wp2
  exact bodyPost_ret (v := .tuple #[.agg #[.bool false, .int .u64 0, .int .u64 0, .int .i64 0], .int .i64 1]) (by simp [results, Tryz.results12, go_sem, q0, q1, q2, q3]) rfl ⟨_, ans_err 1, rfl, bel4 HB1.out hlg⟩
set_option maxRecDepth 100000 in
set_option maxHeartbeats 3200000 in
theorem rcmp_diff (n : Bool) (a b s : Int) (n' : Bool) (a' b' s' σ τ r : Int) (w : World) (ha : U64 a) (hb1 : U64 b) (ha' : U64 a') (hb1' : U64 b') (hr : RightD n a b s) (hr' : RightD n' a' b' s') (h1 : signV n a b s = σ) (h2 : signV n' a' b' s' = τ) (hne : (σ != τ) = true) (hcs : (σ < τ ∧ r = -1) ∨ (decide (σ < τ) = false ∧ r = 1)) :
    Calls Tryz.prog 25 #[.agg #[.bool n, .int .u64 a, .int .u64 b, .int .i64 s], .agg #[.bool n', .int .u64 a', .int .u64 b', .int .i64 s']] w (Ret w (IsInt r)) := by
  have W : HB w [(w.heap.size + 1, 25, #[.bool n', .int .u64 a', .int .u64 b', .int .i64 s']), (w.heap.size, 25, #[.bool n, .int .u64 a, .int .u64 b, .int .i64 s])] ((w.alloc (.cells #[.bool n, .int .u64 a, .int .u64 b, .int .i64 s] 25)).alloc (.cells #[.bool n', .int .u64 a', .int .u64 b', .int .i64 s'] 25)) := by
    have h := ((HB.start (Below.refl _ w)).push #[.bool n, .int .u64 a, .int .u64 b, .int .i64 s] 25).push #[.bool n', .int .u64 a', .int .u64 b', .int .i64 s'] 25
    simpa using h
  have HR := Lib.hid (decide_eq_true hr)
  clear hr
  have HR' := Lib.hid (decide_eq_true hr')
  clear hr'
  have S1 := Lib.hid h1
  have S2 := Lib.hid h2
  clear h1 h2
  rcases hcs with ⟨hlt, rfl⟩ | ⟨hlt, rfl⟩
  all_goals
    go_enter Tryz.func25, Tryz.ntmps25
    go_wp2_with fail
    refine (rdec_v n a b s true _ ha hb1 HR.out).mono ?_
    rintro e w1 ⟨_, rfl, rfl, hb⟩
    replace W := W.below hb
    clear hb
    obtain ⟨lq, q0, q1, q2, q3⟩ := HB.dec (t := 25) (g := w.heap.size + 1) (a := .bool n') (b := .int .u64 a') (c := .int .u64 b') (d := .int .i64 s') W (by simp)
    go_wp2_with fail
    refine (rdec_v n' a' b' s' true _ ha' hb1' HR'.out).mono ?_
    rintro e w2 ⟨_, rfl, rfl, hb⟩
    replace W := W.below hb
    clear hb lq q0 q1 q2 q3
    obtain ⟨lp, p0, p1, p2, p3⟩ := HB.dec (t := 25) (g := w.heap.size) (a := .bool n) (b := .int .u64 a) (c := .int .u64 b) (d := .int .i64 s) W (by simp)
    go_wp2_with fail
    refine (rsign_v n a b s σ _ ha hb1 S1.out).mono ?_
    rintro e w3 ⟨_, rfl, rfl, hb⟩
    replace W := W.below hb
    clear hb lp p0 p1 p2 p3
    obtain ⟨lq, q0, q1, q2, q3⟩ := HB.dec (t := 25) (g := w.heap.size + 1) (a := .bool n') (b := .int .u64 a') (c := .int .u64 b') (d := .int .i64 s') W (by simp)
    go_wp2_with fail
    refine (rsign_v n' a' b' s' τ _ ha' hb1' S2.out).mono ?_
    rintro e w4 ⟨_, rfl, rfl, hb⟩
    replace W := W.below hb
    clear hb lq q0 q1 q2 q3
    have HB1 := Lib.hid W.1
    clear W
    go_wp2
    go_ret
    exact ⟨_, rfl, rfl, HB1.out⟩
set_option maxRecDepth 100000 in
set_option maxHeartbeats 3200000 in
theorem rcmp_eq (n : Bool) (a b s : Int) (n' : Bool) (a' b' s' σ r t : Int) (M N : Nat) (w : World) (ha : U64 a) (hb1 : U64 b) (ha' : U64 a') (hb1' : U64 b') (hr : RightD n a b s) (hr' : RightD n' a' b' s') (h1 : signV n a b s = σ) (h2 : signV n' a' b' s' = σ) (ht : (s < s' ∧ s' = t) ∨ (s' ≤ s ∧ s = t)) (hM : upW a b s t = M) (hN : upW a' b' s' t = N) (hre : IntKind.i64.wrap (σ * cmpI M N) = r) :
    Calls Tryz.prog 25 #[.agg #[.bool n, .int .u64 a, .int .u64 b, .int .i64 s], .agg #[.bool n', .int .u64 a', .int .u64 b', .int .i64 s']] w (Ret w (IsInt r)) := by
  have W : HB w [(w.heap.size + 1, 25, #[.bool n', .int .u64 a', .int .u64 b', .int .i64 s']), (w.heap.size, 25, #[.bool n, .int .u64 a, .int .u64 b, .int .i64 s])] ((w.alloc (.cells #[.bool n, .int .u64 a, .int .u64 b, .int .i64 s] 25)).alloc (.cells #[.bool n', .int .u64 a', .int .u64 b', .int .i64 s'] 25)) := by
    have h := ((HB.start (Below.refl _ w)).push #[.bool n, .int .u64 a, .int .u64 b, .int .i64 s] 25).push #[.bool n', .int .u64 a', .int .u64 b', .int .i64 s'] 25
    simpa using h
  have h0 := hr.2.1
  have h0' := hr'.2.1
  have h9 := hr.2.2.1
  have h9' := hr'.2.2.1
  have HR := Lib.hid (decide_eq_true hr)
  clear hr
  have HR' := Lib.hid (decide_eq_true hr')
  clear hr'
  have S1 := Lib.hid h1
  have S2 := Lib.hid h2
  clear h1 h2
  have HM := Lib.hid hM
  have HN := Lib.hid hN
  clear hM hN
  obtain ⟨c, hc⟩ : ∃ c, cmpI M N = c := ⟨_, rfl⟩
  rw [hc] at hre
  have HC := Lib.hid hc
  clear hc
  have gσ : (σ != σ) = false := by simp
  have ht9 : t ≤ 9 := by omega
  have hst : s ≤ t := by omega
  have hst' : s' ≤ t := by omega
  rcases ht with ⟨hss, rfl⟩ | ⟨hss, rfl⟩
  · have hx9 := hss
    go_enter Tryz.func25, Tryz.ntmps25
    go_wp2_with fail
    refine (rdec_v n a b s true _ ha hb1 HR.out).mono ?_
    rintro e w1 ⟨_, rfl, rfl, hb⟩
    replace W := W.below hb
    clear hb
    obtain ⟨lq, q0, q1, q2, q3⟩ := HB.dec (t := 25) (g := w.heap.size + 1) (a := .bool n') (b := .int .u64 a') (c := .int .u64 b') (d := .int .i64 s') W (by simp)
    go_wp2_with fail
    refine (rdec_v n' a' b' s' true _ ha' hb1' HR'.out).mono ?_
    rintro e w2 ⟨_, rfl, rfl, hb⟩
    replace W := W.below hb
    clear hb lq q0 q1 q2 q3
    obtain ⟨lp, p0, p1, p2, p3⟩ := HB.dec (t := 25) (g := w.heap.size) (a := .bool n) (b := .int .u64 a) (c := .int .u64 b) (d := .int .i64 s) W (by simp)
    go_wp2_with fail
    refine (rsign_v n a b s σ _ ha hb1 S1.out).mono ?_
    rintro e w3 ⟨_, rfl, rfl, hb⟩
    replace W := W.below hb
    clear hb lp p0 p1 p2 p3
    obtain ⟨lq, q0, q1, q2, q3⟩ := HB.dec (t := 25) (g := w.heap.size + 1) (a := .bool n') (b := .int .u64 a') (c := .int .u64 b') (d := .int .i64 s') W (by simp)
    go_wp2_with fail
    refine (rsign_v n' a' b' s' σ _ ha' hb1' S2.out).mono ?_
    rintro e w4 ⟨_, rfl, rfl, hb⟩
    replace W := W.below hb
    clear hb lq q0 q1 q2 q3
    obtain ⟨lp, p0, p1, p2, p3⟩ := HB.dec (t := 25) (g := w.heap.size) (a := .bool n) (b := .int .u64 a) (c := .int .u64 b) (d := .int .i64 s) W (by simp)
    obtain ⟨lq, q0, q1, q2, q3⟩ := HB.dec (t := 25) (g := w.heap.size + 1) (a := .bool n') (b := .int .u64 a') (c := .int .u64 b') (d := .int .i64 s') W (by simp)
    have V : Sub2 w w.heap.size n a b s n' a' b' s' w4 := W
    have HV := Lib.hid V
    clear V W
    go_wp2_with fail
    try rw [show max s s' = s' by omega]
    try (go_upto_region 10 with fail)
    go_region_held3 (fun w' => Sub2 w w.heap.size n a b s n' a' b' s' w' ∧ (w'.cell? ⟨w.heap.size, 0, none⟩ = some (.bool n) ∧ w'.cell? ⟨w.heap.size, 1, none⟩ = some (.int .u64 a) ∧ w'.cell? ⟨w.heap.size, 2, none⟩ = some (.int .u64 b) ∧ w'.cell? ⟨w.heap.size, 3, none⟩ = some (.int .i64 s)) ∧ (w'.cell? ⟨w.heap.size + 1, 0, none⟩ = some (.bool n') ∧ w'.cell? ⟨w.heap.size + 1, 1, none⟩ = some (.int .u64 a') ∧ w'.cell? ⟨w.heap.size + 1, 2, none⟩ = some (.int .u64 b') ∧ w'.cell? ⟨w.heap.size + 1, 3, none⟩ = some (.int .i64 s')))
      (first | exact cm_mk (HB.drew HV.out) | exact cm_mk HX.out)
      (first
        | (go_at_call 37; (with_reducible refine (rdigits_v n a b s s' M _ ha hb1 h0 hst ht9 HM.out).mono ?_); rintro e wx ⟨A1, n1, k1, d1, ⟨D1, N1, E1⟩, rfl, hbx⟩; have HX := Lib.hid (cm_keep hbx (by assumption)); have E1h := Lib.hid E1; clear E1; have l1 : n1 ≤ 50 := lenA D1 N1 (by rw [E1h.out, ← HM.out]; exact up_50 ha hb1 (by omega)))
        | (go_at_call 37; (with_reducible refine (rdigits_v n' a' b' s' s' N _ ha' hb1' h0' hst' ht9 HN.out).mono ?_); rintro e wx ⟨A2, n2, k2, d2, ⟨D2, N2, E2⟩, rfl, hbx⟩; have HX := Lib.hid (cm_keep hbx (by assumption)); have E2h := Lib.hid E2; clear E2; (try replace D1 := D1.below hbx))
        | (go_at_call 40; (with_reducible refine (cmpNat_v A1 A2 n1 n2 k1 k2 d1 d2 c _ (by exact D1) (by exact D2) N1 N2 (by rw [E1h.out, E2h.out]; exact HC.out)).mono ?_); rintro e wx ⟨_, rfl, rfl, hbx⟩; have HX := Lib.hid (cm_keep hbx (by assumption))))
    all_goals
      have HB1 := Lib.hid HX.out.1
      go_wp2
      go_ret
      exact ⟨_, rfl, rfl, HB1.out⟩
  · have hx9 := hss
    go_enter Tryz.func25, Tryz.ntmps25
    go_wp2_with fail
    refine (rdec_v n a b s true _ ha hb1 HR.out).mono ?_
    rintro e w1 ⟨_, rfl, rfl, hb⟩
    replace W := W.below hb
    clear hb
    obtain ⟨lq, q0, q1, q2, q3⟩ := HB.dec (t := 25) (g := w.heap.size + 1) (a := .bool n') (b := .int .u64 a') (c := .int .u64 b') (d := .int .i64 s') W (by simp)
    go_wp2_with fail
    refine (rdec_v n' a' b' s' true _ ha' hb1' HR'.out).mono ?_
    rintro e w2 ⟨_, rfl, rfl, hb⟩
    replace W := W.below hb
    clear hb lq q0 q1 q2 q3
    obtain ⟨lp, p0, p1, p2, p3⟩ := HB.dec (t := 25) (g := w.heap.size) (a := .bool n) (b := .int .u64 a) (c := .int .u64 b) (d := .int .i64 s) W (by simp)
    go_wp2_with fail
    refine (rsign_v n a b s σ _ ha hb1 S1.out).mono ?_
    rintro e w3 ⟨_, rfl, rfl, hb⟩
    replace W := W.below hb
    clear hb lp p0 p1 p2 p3
    obtain ⟨lq, q0, q1, q2, q3⟩ := HB.dec (t := 25) (g := w.heap.size + 1) (a := .bool n') (b := .int .u64 a') (c := .int .u64 b') (d := .int .i64 s') W (by simp)
    go_wp2_with fail
    refine (rsign_v n' a' b' s' σ _ ha' hb1' S2.out).mono ?_
    rintro e w4 ⟨_, rfl, rfl, hb⟩
    replace W := W.below hb
    clear hb lq q0 q1 q2 q3
    obtain ⟨lp, p0, p1, p2, p3⟩ := HB.dec (t := 25) (g := w.heap.size) (a := .bool n) (b := .int .u64 a) (c := .int .u64 b) (d := .int .i64 s) W (by simp)
    obtain ⟨lq, q0, q1, q2, q3⟩ := HB.dec (t := 25) (g := w.heap.size + 1) (a := .bool n') (b := .int .u64 a') (c := .int .u64 b') (d := .int .i64 s') W (by simp)
    have V : Sub2 w w.heap.size n a b s n' a' b' s' w4 := W
    have HV := Lib.hid V
    clear V W
    go_wp2_with fail
    try rw [show max s s' = s by omega]
    try (go_upto_region 10 with fail)
    go_region_held3 (fun w' => Sub2 w w.heap.size n a b s n' a' b' s' w' ∧ (w'.cell? ⟨w.heap.size, 0, none⟩ = some (.bool n) ∧ w'.cell? ⟨w.heap.size, 1, none⟩ = some (.int .u64 a) ∧ w'.cell? ⟨w.heap.size, 2, none⟩ = some (.int .u64 b) ∧ w'.cell? ⟨w.heap.size, 3, none⟩ = some (.int .i64 s)) ∧ (w'.cell? ⟨w.heap.size + 1, 0, none⟩ = some (.bool n') ∧ w'.cell? ⟨w.heap.size + 1, 1, none⟩ = some (.int .u64 a') ∧ w'.cell? ⟨w.heap.size + 1, 2, none⟩ = some (.int .u64 b') ∧ w'.cell? ⟨w.heap.size + 1, 3, none⟩ = some (.int .i64 s')))
      (first | exact cm_mk (HB.drew HV.out) | exact cm_mk HX.out)
      (first
        | (go_at_call 37; (with_reducible refine (rdigits_v n a b s s M _ ha hb1 h0 hst ht9 HM.out).mono ?_); rintro e wx ⟨A1, n1, k1, d1, ⟨D1, N1, E1⟩, rfl, hbx⟩; have HX := Lib.hid (cm_keep hbx (by assumption)); have E1h := Lib.hid E1; clear E1; have l1 : n1 ≤ 50 := lenA D1 N1 (by rw [E1h.out, ← HM.out]; exact up_50 ha hb1 (by omega)))
        | (go_at_call 37; (with_reducible refine (rdigits_v n' a' b' s' s N _ ha' hb1' h0' hst' ht9 HN.out).mono ?_); rintro e wx ⟨A2, n2, k2, d2, ⟨D2, N2, E2⟩, rfl, hbx⟩; have HX := Lib.hid (cm_keep hbx (by assumption)); have E2h := Lib.hid E2; clear E2; (try replace D1 := D1.below hbx))
        | (go_at_call 40; (with_reducible refine (cmpNat_v A1 A2 n1 n2 k1 k2 d1 d2 c _ (by exact D1) (by exact D2) N1 N2 (by rw [E1h.out, E2h.out]; exact HC.out)).mono ?_); rintro e wx ⟨_, rfl, rfl, hbx⟩; have HX := Lib.hid (cm_keep hbx (by assumption))))
    all_goals
      have HB1 := Lib.hid HX.out.1
      go_wp2
      go_ret
      exact ⟨_, rfl, rfl, HB1.out⟩
theorem sub_len {w : World} {A B : Option Addr} {n m ca cb : Nat} {a b : List Nat} (ha : DigC w A n ca a) (hb : DigC w B m cb b) (nb : Norm b) (h : dv b ≤ dv a) : m ≤ n := by
  have h1 := dv_le_pow ha
  exact lenA hb nb (Nat.lt_of_le_of_lt h h1)
set_option maxRecDepth 100000 in
set_option maxHeartbeats 3200000 in
theorem radd_same (n : Bool) (n' : Bool) (a b s a' b' s' t : Int) (M N : Nat) (w : World) (ha : U64 a) (hb1 : U64 b) (ha' : U64 a') (hb1' : U64 b') (hr : RightD n a b s) (hr' : RightD n' a' b' s') (ht : (s < s' ∧ s' = t) ∨ (s' ≤ s ∧ s = t)) (hM : upW a b s t = M) (hN : upW a' b' s' t = N) (hn : n = n') :
    Calls Tryz.prog 10 #[.agg #[.bool n, .int .u64 a, .int .u64 b, .int .i64 s], .agg #[.bool n', .int .u64 a', .int .u64 b', .int .i64 s']] w (Ret w (Ans (chkV n (M + N) t))) := by
  have W : HB w [(w.heap.size + 1 + 1, 25, #[.bool false, .int .u64 0, .int .u64 0, .int .i64 0]), (w.heap.size + 1, 25, #[.bool n', .int .u64 a', .int .u64 b', .int .i64 s']), (w.heap.size, 25, #[.bool n, .int .u64 a, .int .u64 b, .int .i64 s])] (((w.alloc (.cells #[.bool n, .int .u64 a, .int .u64 b, .int .i64 s] 25)).alloc (.cells #[.bool n', .int .u64 a', .int .u64 b', .int .i64 s'] 25)).alloc (.cells #[.bool false, .int .u64 0, .int .u64 0, .int .i64 0] 25)) := by
    have h := (((HB.start (Below.refl _ w)).push #[.bool n, .int .u64 a, .int .u64 b, .int .i64 s] 25).push #[.bool n', .int .u64 a', .int .u64 b', .int .i64 s'] 25).push #[.bool false, .int .u64 0, .int .u64 0, .int .i64 0] 25
    simpa using h
  have hlg : w.heap.size ≤ w.heap.size + 1 + 1 := by omega
  have h0 := hr.2.1
  have h0' := hr'.2.1
  have h9 := hr.2.2.1
  have h9' := hr'.2.2.1
  have HR := Lib.hid (decide_eq_true hr)
  clear hr
  have HR' := Lib.hid (decide_eq_true hr')
  clear hr'
  have HM := Lib.hid hM
  have HN := Lib.hid hN
  clear hM hN
  have gn : (n == n') = true := by simp [hn]
  clear hn
  have ht9 : t ≤ 9 := by omega
  have hst : s ≤ t := by omega
  have hst' : s' ≤ t := by omega
  have b1 : t - s ≤ 9 := by omega
  have b2 : t - s' ≤ 9 := by omega
  rcases ht with ⟨hss, rfl⟩ | ⟨hss, rfl⟩
  · have hx9 := hss
    go_enter Tryz.func10, Tryz.ntmps10
    go_wp2_with fail
    refine (rdec_v n a b s true _ ha hb1 HR.out).mono ?_
    rintro e w1 ⟨_, rfl, rfl, hb⟩
    replace W := W.below hb
    clear hb
    obtain ⟨lq, q0, q1, q2, q3⟩ := HB.dec (t := 25) (g := w.heap.size + 1) (a := .bool n') (b := .int .u64 a') (c := .int .u64 b') (d := .int .i64 s') W (by simp)
    go_wp2_with fail
    refine (rdec_v n' a' b' s' true _ ha' hb1' HR'.out).mono ?_
    rintro e w2 ⟨_, rfl, rfl, hb⟩
    replace W := W.below hb
    clear hb lq q0 q1 q2 q3
    obtain ⟨lp, p0, p1, p2, p3⟩ := HB.dec (t := 25) (g := w.heap.size) (a := .bool n) (b := .int .u64 a) (c := .int .u64 b) (d := .int .i64 s) W (by simp)
    obtain ⟨lq, q0, q1, q2, q3⟩ := HB.dec (t := 25) (g := w.heap.size + 1) (a := .bool n') (b := .int .u64 a') (c := .int .u64 b') (d := .int .i64 s') W (by simp)
    go_wp2_with fail
    rw [show max s s' = s' by omega]
    go_wp2_with fail
    refine (rdigits_v n a b s s' M _ ha hb1 h0 hst ht9 HM.out).mono ?_
    rintro e w3 ⟨A1, n1, k1, d1, ⟨D1, N1, E1⟩, rfl, hb⟩
    have l1 : n1 ≤ 50 := lenA D1 N1 (by rw [E1, ← HM.out]; exact up_50 ha hb1 b1)
    have E1h := Lib.hid E1
    replace W := W.below hb
    clear E1 hb lp p0 p1 p2 p3 lq q0 q1 q2 q3
    obtain ⟨lq, q0, q1, q2, q3⟩ := HB.dec (t := 25) (g := w.heap.size + 1) (a := .bool n') (b := .int .u64 a') (c := .int .u64 b') (d := .int .i64 s') W (by simp)
    go_wp2_with fail
    refine (rdigits_v n' a' b' s' s' N _ ha' hb1' h0' hst' ht9 HN.out).mono ?_
    rintro e w4 ⟨A2, n2, k2, d2, ⟨D2, N2, E2⟩, rfl, hb⟩
    have l2 : n2 ≤ 50 := lenA D2 N2 (by rw [E2, ← HN.out]; exact up_50 ha' hb1' b2)
    replace D1 := D1.below hb
    have E2h := Lib.hid E2
    replace W := W.below hb
    clear E2 hb lq q0 q1 q2 q3
    obtain ⟨lp, p0, p1, p2, p3⟩ := HB.dec (t := 25) (g := w.heap.size) (a := .bool n) (b := .int .u64 a) (c := .int .u64 b) (d := .int .i64 s) W (by simp)
    obtain ⟨lq, q0, q1, q2, q3⟩ := HB.dec (t := 25) (g := w.heap.size + 1) (a := .bool n') (b := .int .u64 a') (c := .int .u64 b') (d := .int .i64 s') W (by simp)
    have BZ : Blk w4 (w.heap.size + 1 + 1) 25 #[.bool false, .int .u64 0, .int .u64 0, .int .i64 0] := HB.blk (g := w.heap.size + 1 + 1) (t := 25) (cs := #[.bool false, .int .u64 0, .int .u64 0, .int .i64 0]) W (by simp)
    have VD : HB w [(w.heap.size + 1, 25, #[.bool n', .int .u64 a', .int .u64 b', .int .i64 s']), (w.heap.size, 25, #[.bool n, .int .u64 a, .int .u64 b, .int .i64 s])] w4.drew := (HB.sub W (by simp)).drew
    have hne : ∀ b0 ∈ ([(w.heap.size + 1, 25, #[.bool n', .int .u64 a', .int .u64 b', .int .i64 s']), (w.heap.size, 25, #[.bool n, .int .u64 a, .int .u64 b, .int .i64 s])] : List (Nat × TypeId × Array Value)), b0.1 ≠ w.heap.size + 1 + 1 := by intro b0 hb; simp at hb; rcases hb with rfl | rfl <;> simp <;> omega
    clear W
    go_upto_region 7 with fail
    clear lp p0 p1 p2 p3 lq q0 q1 q2 q3
    refine wp_region_ord (S := fun W => HB w [(w.heap.size + 1, 25, #[.bool n', .int .u64 a', .int .u64 b', .int .i64 s']), (w.heap.size, 25, #[.bool n, .int .u64 a, .int .u64 b, .int .i64 s])] W) (by kernel_rfl) ?_
    refine ord_take (v := ?_) (i := 0) (fuel := 10) (by simp; rfl) (by kernel_rfl) (by kernel_rfl) (by kernel_rfl) (Or.inl ⟨by rfl, fun w' hSw => ?_⟩) VD ?_
    rotate_left
    · go_simp
      all_goals with_reducible rfl
    simp only [Act.put, List.setIfInBounds_toArray, List.set_cons_zero, List.set_cons_succ]
    refine ord_take (v := ?_) (i := 1) (fuel := 9) (by simp; rfl) (by kernel_rfl) (by kernel_rfl) (by kernel_rfl) (Or.inl ⟨by rfl, fun w' hSw => ?_⟩) VD ?_
    rotate_left
    · dsimp only at hSw
      obtain ⟨ql, q0, q1, q2, q3⟩ := HB.dec (t := 25) (g := w.heap.size) (a := .bool n) (b := .int .u64 a) (c := .int .u64 b) (d := .int .i64 s) hSw (by simp)
      go_simp
      all_goals with_reducible rfl
    simp only [Act.put, List.setIfInBounds_toArray, List.set_cons_zero, List.set_cons_succ]
    refine ord_take (v := ?_) (i := 2) (fuel := 8) (by simp; rfl) (by kernel_rfl) (by kernel_rfl) (by kernel_rfl) (Or.inl ⟨by rfl, fun w' hSw => ?_⟩) VD ?_
    rotate_left
    · go_simp
      all_goals with_reducible rfl
    simp only [Act.put, List.setIfInBounds_toArray, List.set_cons_zero, List.set_cons_succ]
    refine ord_take (v := ?_) (i := 3) (fuel := 7) (by simp; rfl) (by kernel_rfl) (by kernel_rfl) (by kernel_rfl) (Or.inl ⟨by rfl, fun w' hSw => ?_⟩) VD ?_
    rotate_left
    · go_simp
      all_goals with_reducible rfl
    simp only [Act.put, List.setIfInBounds_toArray, List.set_cons_zero, List.set_cons_succ]
    refine ord_take (v := ?_) (i := 5) (fuel := 6) (by simp; rfl) (by kernel_rfl) (by kernel_rfl) (by kernel_rfl) (Or.inl ⟨by rfl, fun w' hSw => ?_⟩) VD ?_
    rotate_left
    · go_simp
      all_goals with_reducible rfl
    simp only [Act.put, List.setIfInBounds_toArray, List.set_cons_zero, List.set_cons_succ]
    refine ord_call (f := 39) (args := #[.slice A1 n1 k1, .slice A2 n2 k2]) (w1 := w4.drew) (i := 4) (fuel := 5) (by simp; rfl) (by kernel_rfl) (by rfl) ?_ ?_
    · go_simp
      all_goals with_reducible rfl
    refine (addNat_c A1 A2 n1 n2 k1 k2 d1 d2 _ (by exact D1) (by exact D2) (by omega) (by omega)).mono ?_
    rintro e x1 ⟨A3, n3, k3, d3, ⟨D3, N3, E3⟩, rfl, hb⟩
    have V1 := VD.below hb
    have BY := (show Blk w4.drew (w.heap.size + 1 + 1) 25 #[.bool false, .int .u64 0, .int .u64 0, .int .i64 0] from BZ).below hb BZ.lt
    have E3h := Lib.hid (show dv d3 = M + N by rw [E3, E1h.out, E2h.out])
    clear hb VD BZ E3 D1 D2
    refine ⟨_, rfl, V1, ?_⟩
    simp only [Act.put, List.setIfInBounds_toArray, List.set_cons_zero, List.set_cons_succ]
    refine ord_call (f := 38) (args := #[.bool n, .slice A3 n3 k3, .int .i64 s']) (w1 := x1) (i := 6) (fuel := 4) (by simp; rfl) (by kernel_rfl) (by rfl) ?_ ?_
    · go_simp
      all_goals with_reducible rfl
    refine (make_all n A3 n3 k3 d3 (M + N) s' _ D3 N3 E3h.out).mono ?_
    rintro e x2 ⟨_, ⟨m4, c4, d4, q4, e4, D4, rfl⟩, rfl, hb⟩
    have V2 := V1.below hb
    have BX := BY.below hb BY.lt
    have HD4 := Lib.hid D4
    clear hb V1 BY D4 D3
    refine ⟨_, rfl, V2, ?_⟩
    simp only [Act.put, List.setIfInBounds_toArray, List.set_cons_zero, List.set_cons_succ]
    refine ord_take (v := ?_) (i := 7) (fuel := 3) (by simp; rfl) (by kernel_rfl) (by kernel_rfl) (by kernel_rfl) (Or.inl ⟨by rfl, fun w' hSw => ?_⟩) V2 ?_
    rotate_left
    · go_simp
      all_goals with_reducible rfl
    simp only [Act.put, List.setIfInBounds_toArray, List.set_cons_zero, List.set_cons_succ]
    refine ord_take (v := ?_) (i := 8) (fuel := 2) (by simp; rfl) (by kernel_rfl) (by kernel_rfl) (by kernel_rfl) (Or.inl ⟨by rfl, fun w' hSw => ?_⟩) V2 ?_
    rotate_left
    · go_simp
      all_goals with_reducible rfl
    simp only [Act.put, List.setIfInBounds_toArray, List.set_cons_zero, List.set_cons_succ]
    obtain ⟨lz, ⟨z0, z1, z2, z3⟩, y0, y1, y2, y3⟩ := blk_cells BX
    have VS1 := HB.set4 (a' := .bool m4) (b' := .int .u64 c4) (c' := .int .u64 d4) (d' := .int .i64 q4) V2 BX hlg hne
    have VS := HB.sub (bs' := [(w.heap.size + 1, 25, #[.bool n', .int .u64 a', .int .u64 b', .int .i64 s']), (w.heap.size, 25, #[.bool n, .int .u64 a, .int .u64 b, .int .i64 s])]) VS1 (by simp)
    refine ord_skip (w' := ((((x2.setCell ⟨w.heap.size + 1 + 1, 0, none⟩ (.bool m4)).setCell ⟨w.heap.size + 1 + 1, 1, none⟩ (.int .u64 c4)).setCell ⟨w.heap.size + 1 + 1, 2, none⟩ (.int .u64 d4)).setCell ⟨w.heap.size + 1 + 1, 3, none⟩ (.int .i64 q4))) (i := 9) (fuel := 1) (by simp; rfl) (by kernel_rfl) (by rfl) rfl ?_ VS ?_
    · go_simp
      all_goals with_reducible rfl
    refine ord_take (v := ?_) (i := 10) (fuel := 0) (by simp; rfl) (by kernel_rfl) (by kernel_rfl) (by kernel_rfl) (Or.inl ⟨by rfl, fun w' hSw => ?_⟩) VS ?_
    rotate_left
    · go_simp
      all_goals with_reducible rfl
    simp only [Act.put, List.setIfInBounds_toArray, List.set_cons_zero, List.set_cons_succ]
    obtain ⟨lt, t0, t1, t2, t3⟩ := HB.dec (t := 25) (g := w.heap.size + 1 + 1) (a := .bool m4) (b := .int .u64 c4) (c := .int .u64 d4) (d := .int .i64 q4) VS1 (by simp)
    have HB1 := Lib.hid VS.1
    clear VS VS1 V2 BX lz z0 z1 z2 z3 y0 y1 y2 y3
    refine ord_done (by kernel_rfl) ?_ _
    go_wp2
    exact bodyPost_ret (v := .tuple #[.agg #[.bool m4, .int .u64 c4, .int .u64 d4, .int .i64 q4], .int .i64 e4]) (by simp [results, Tryz.results10, go_sem, t0, t1, t2, t3]) rfl ⟨_, ⟨_, _, _, _, _, HD4.out, rfl⟩, rfl, HB1.out⟩
  · have hx9 := hss
    go_enter Tryz.func10, Tryz.ntmps10
    go_wp2_with fail
    refine (rdec_v n a b s true _ ha hb1 HR.out).mono ?_
    rintro e w1 ⟨_, rfl, rfl, hb⟩
    replace W := W.below hb
    clear hb
    obtain ⟨lq, q0, q1, q2, q3⟩ := HB.dec (t := 25) (g := w.heap.size + 1) (a := .bool n') (b := .int .u64 a') (c := .int .u64 b') (d := .int .i64 s') W (by simp)
    go_wp2_with fail
    refine (rdec_v n' a' b' s' true _ ha' hb1' HR'.out).mono ?_
    rintro e w2 ⟨_, rfl, rfl, hb⟩
    replace W := W.below hb
    clear hb lq q0 q1 q2 q3
    obtain ⟨lp, p0, p1, p2, p3⟩ := HB.dec (t := 25) (g := w.heap.size) (a := .bool n) (b := .int .u64 a) (c := .int .u64 b) (d := .int .i64 s) W (by simp)
    obtain ⟨lq, q0, q1, q2, q3⟩ := HB.dec (t := 25) (g := w.heap.size + 1) (a := .bool n') (b := .int .u64 a') (c := .int .u64 b') (d := .int .i64 s') W (by simp)
    go_wp2_with fail
    rw [show max s s' = s by omega]
    go_wp2_with fail
    refine (rdigits_v n a b s s M _ ha hb1 h0 hst ht9 HM.out).mono ?_
    rintro e w3 ⟨A1, n1, k1, d1, ⟨D1, N1, E1⟩, rfl, hb⟩
    have l1 : n1 ≤ 50 := lenA D1 N1 (by rw [E1, ← HM.out]; exact up_50 ha hb1 b1)
    have E1h := Lib.hid E1
    replace W := W.below hb
    clear E1 hb lp p0 p1 p2 p3 lq q0 q1 q2 q3
    obtain ⟨lq, q0, q1, q2, q3⟩ := HB.dec (t := 25) (g := w.heap.size + 1) (a := .bool n') (b := .int .u64 a') (c := .int .u64 b') (d := .int .i64 s') W (by simp)
    go_wp2_with fail
    refine (rdigits_v n' a' b' s' s N _ ha' hb1' h0' hst' ht9 HN.out).mono ?_
    rintro e w4 ⟨A2, n2, k2, d2, ⟨D2, N2, E2⟩, rfl, hb⟩
    have l2 : n2 ≤ 50 := lenA D2 N2 (by rw [E2, ← HN.out]; exact up_50 ha' hb1' b2)
    replace D1 := D1.below hb
    have E2h := Lib.hid E2
    replace W := W.below hb
    clear E2 hb lq q0 q1 q2 q3
    obtain ⟨lp, p0, p1, p2, p3⟩ := HB.dec (t := 25) (g := w.heap.size) (a := .bool n) (b := .int .u64 a) (c := .int .u64 b) (d := .int .i64 s) W (by simp)
    obtain ⟨lq, q0, q1, q2, q3⟩ := HB.dec (t := 25) (g := w.heap.size + 1) (a := .bool n') (b := .int .u64 a') (c := .int .u64 b') (d := .int .i64 s') W (by simp)
    have BZ : Blk w4 (w.heap.size + 1 + 1) 25 #[.bool false, .int .u64 0, .int .u64 0, .int .i64 0] := HB.blk (g := w.heap.size + 1 + 1) (t := 25) (cs := #[.bool false, .int .u64 0, .int .u64 0, .int .i64 0]) W (by simp)
    have VD : HB w [(w.heap.size + 1, 25, #[.bool n', .int .u64 a', .int .u64 b', .int .i64 s']), (w.heap.size, 25, #[.bool n, .int .u64 a, .int .u64 b, .int .i64 s])] w4.drew := (HB.sub W (by simp)).drew
    have hne : ∀ b0 ∈ ([(w.heap.size + 1, 25, #[.bool n', .int .u64 a', .int .u64 b', .int .i64 s']), (w.heap.size, 25, #[.bool n, .int .u64 a, .int .u64 b, .int .i64 s])] : List (Nat × TypeId × Array Value)), b0.1 ≠ w.heap.size + 1 + 1 := by intro b0 hb; simp at hb; rcases hb with rfl | rfl <;> simp <;> omega
    clear W
    go_upto_region 7 with fail
    clear lp p0 p1 p2 p3 lq q0 q1 q2 q3
    refine wp_region_ord (S := fun W => HB w [(w.heap.size + 1, 25, #[.bool n', .int .u64 a', .int .u64 b', .int .i64 s']), (w.heap.size, 25, #[.bool n, .int .u64 a, .int .u64 b, .int .i64 s])] W) (by kernel_rfl) ?_
    refine ord_take (v := ?_) (i := 0) (fuel := 10) (by simp; rfl) (by kernel_rfl) (by kernel_rfl) (by kernel_rfl) (Or.inl ⟨by rfl, fun w' hSw => ?_⟩) VD ?_
    rotate_left
    · go_simp
      all_goals with_reducible rfl
    simp only [Act.put, List.setIfInBounds_toArray, List.set_cons_zero, List.set_cons_succ]
    refine ord_take (v := ?_) (i := 1) (fuel := 9) (by simp; rfl) (by kernel_rfl) (by kernel_rfl) (by kernel_rfl) (Or.inl ⟨by rfl, fun w' hSw => ?_⟩) VD ?_
    rotate_left
    · dsimp only at hSw
      obtain ⟨ql, q0, q1, q2, q3⟩ := HB.dec (t := 25) (g := w.heap.size) (a := .bool n) (b := .int .u64 a) (c := .int .u64 b) (d := .int .i64 s) hSw (by simp)
      go_simp
      all_goals with_reducible rfl
    simp only [Act.put, List.setIfInBounds_toArray, List.set_cons_zero, List.set_cons_succ]
    refine ord_take (v := ?_) (i := 2) (fuel := 8) (by simp; rfl) (by kernel_rfl) (by kernel_rfl) (by kernel_rfl) (Or.inl ⟨by rfl, fun w' hSw => ?_⟩) VD ?_
    rotate_left
    · go_simp
      all_goals with_reducible rfl
    simp only [Act.put, List.setIfInBounds_toArray, List.set_cons_zero, List.set_cons_succ]
    refine ord_take (v := ?_) (i := 3) (fuel := 7) (by simp; rfl) (by kernel_rfl) (by kernel_rfl) (by kernel_rfl) (Or.inl ⟨by rfl, fun w' hSw => ?_⟩) VD ?_
    rotate_left
    · go_simp
      all_goals with_reducible rfl
    simp only [Act.put, List.setIfInBounds_toArray, List.set_cons_zero, List.set_cons_succ]
    refine ord_take (v := ?_) (i := 5) (fuel := 6) (by simp; rfl) (by kernel_rfl) (by kernel_rfl) (by kernel_rfl) (Or.inl ⟨by rfl, fun w' hSw => ?_⟩) VD ?_
    rotate_left
    · go_simp
      all_goals with_reducible rfl
    simp only [Act.put, List.setIfInBounds_toArray, List.set_cons_zero, List.set_cons_succ]
    refine ord_call (f := 39) (args := #[.slice A1 n1 k1, .slice A2 n2 k2]) (w1 := w4.drew) (i := 4) (fuel := 5) (by simp; rfl) (by kernel_rfl) (by rfl) ?_ ?_
    · go_simp
      all_goals with_reducible rfl
    refine (addNat_c A1 A2 n1 n2 k1 k2 d1 d2 _ (by exact D1) (by exact D2) (by omega) (by omega)).mono ?_
    rintro e x1 ⟨A3, n3, k3, d3, ⟨D3, N3, E3⟩, rfl, hb⟩
    have V1 := VD.below hb
    have BY := (show Blk w4.drew (w.heap.size + 1 + 1) 25 #[.bool false, .int .u64 0, .int .u64 0, .int .i64 0] from BZ).below hb BZ.lt
    have E3h := Lib.hid (show dv d3 = M + N by rw [E3, E1h.out, E2h.out])
    clear hb VD BZ E3 D1 D2
    refine ⟨_, rfl, V1, ?_⟩
    simp only [Act.put, List.setIfInBounds_toArray, List.set_cons_zero, List.set_cons_succ]
    refine ord_call (f := 38) (args := #[.bool n, .slice A3 n3 k3, .int .i64 s]) (w1 := x1) (i := 6) (fuel := 4) (by simp; rfl) (by kernel_rfl) (by rfl) ?_ ?_
    · go_simp
      all_goals with_reducible rfl
    refine (make_all n A3 n3 k3 d3 (M + N) s _ D3 N3 E3h.out).mono ?_
    rintro e x2 ⟨_, ⟨m4, c4, d4, q4, e4, D4, rfl⟩, rfl, hb⟩
    have V2 := V1.below hb
    have BX := BY.below hb BY.lt
    have HD4 := Lib.hid D4
    clear hb V1 BY D4 D3
    refine ⟨_, rfl, V2, ?_⟩
    simp only [Act.put, List.setIfInBounds_toArray, List.set_cons_zero, List.set_cons_succ]
    refine ord_take (v := ?_) (i := 7) (fuel := 3) (by simp; rfl) (by kernel_rfl) (by kernel_rfl) (by kernel_rfl) (Or.inl ⟨by rfl, fun w' hSw => ?_⟩) V2 ?_
    rotate_left
    · go_simp
      all_goals with_reducible rfl
    simp only [Act.put, List.setIfInBounds_toArray, List.set_cons_zero, List.set_cons_succ]
    refine ord_take (v := ?_) (i := 8) (fuel := 2) (by simp; rfl) (by kernel_rfl) (by kernel_rfl) (by kernel_rfl) (Or.inl ⟨by rfl, fun w' hSw => ?_⟩) V2 ?_
    rotate_left
    · go_simp
      all_goals with_reducible rfl
    simp only [Act.put, List.setIfInBounds_toArray, List.set_cons_zero, List.set_cons_succ]
    obtain ⟨lz, ⟨z0, z1, z2, z3⟩, y0, y1, y2, y3⟩ := blk_cells BX
    have VS1 := HB.set4 (a' := .bool m4) (b' := .int .u64 c4) (c' := .int .u64 d4) (d' := .int .i64 q4) V2 BX hlg hne
    have VS := HB.sub (bs' := [(w.heap.size + 1, 25, #[.bool n', .int .u64 a', .int .u64 b', .int .i64 s']), (w.heap.size, 25, #[.bool n, .int .u64 a, .int .u64 b, .int .i64 s])]) VS1 (by simp)
    refine ord_skip (w' := ((((x2.setCell ⟨w.heap.size + 1 + 1, 0, none⟩ (.bool m4)).setCell ⟨w.heap.size + 1 + 1, 1, none⟩ (.int .u64 c4)).setCell ⟨w.heap.size + 1 + 1, 2, none⟩ (.int .u64 d4)).setCell ⟨w.heap.size + 1 + 1, 3, none⟩ (.int .i64 q4))) (i := 9) (fuel := 1) (by simp; rfl) (by kernel_rfl) (by rfl) rfl ?_ VS ?_
    · go_simp
      all_goals with_reducible rfl
    refine ord_take (v := ?_) (i := 10) (fuel := 0) (by simp; rfl) (by kernel_rfl) (by kernel_rfl) (by kernel_rfl) (Or.inl ⟨by rfl, fun w' hSw => ?_⟩) VS ?_
    rotate_left
    · go_simp
      all_goals with_reducible rfl
    simp only [Act.put, List.setIfInBounds_toArray, List.set_cons_zero, List.set_cons_succ]
    obtain ⟨lt, t0, t1, t2, t3⟩ := HB.dec (t := 25) (g := w.heap.size + 1 + 1) (a := .bool m4) (b := .int .u64 c4) (c := .int .u64 d4) (d := .int .i64 q4) VS1 (by simp)
    have HB1 := Lib.hid VS.1
    clear VS VS1 V2 BX lz z0 z1 z2 z3 y0 y1 y2 y3
    refine ord_done (by kernel_rfl) ?_ _
    go_wp2
    exact bodyPost_ret (v := .tuple #[.agg #[.bool m4, .int .u64 c4, .int .u64 d4, .int .i64 q4], .int .i64 e4]) (by simp [results, Tryz.results10, go_sem, t0, t1, t2, t3]) rfl ⟨_, ⟨_, _, _, _, _, HD4.out, rfl⟩, rfl, HB1.out⟩
set_option maxRecDepth 100000 in
set_option maxHeartbeats 3200000 in
theorem radd_ge (n : Bool) (n' : Bool) (a b s a' b' s' t : Int) (M N : Nat) (w : World) (ha : U64 a) (hb1 : U64 b) (ha' : U64 a') (hb1' : U64 b') (hr : RightD n a b s) (hr' : RightD n' a' b' s') (ht : (s < s' ∧ s' = t) ∨ (s' ≤ s ∧ s = t)) (hM : upW a b s t = M) (hN : upW a' b' s' t = N) (hn : (n == n') = false) (hle : N ≤ M) :
    Calls Tryz.prog 10 #[.agg #[.bool n, .int .u64 a, .int .u64 b, .int .i64 s], .agg #[.bool n', .int .u64 a', .int .u64 b', .int .i64 s']] w (Ret w (Ans (chkV n (M - N) t))) := by
  have W : HB w [(w.heap.size + 1 + 1, 25, #[.bool false, .int .u64 0, .int .u64 0, .int .i64 0]), (w.heap.size + 1, 25, #[.bool n', .int .u64 a', .int .u64 b', .int .i64 s']), (w.heap.size, 25, #[.bool n, .int .u64 a, .int .u64 b, .int .i64 s])] (((w.alloc (.cells #[.bool n, .int .u64 a, .int .u64 b, .int .i64 s] 25)).alloc (.cells #[.bool n', .int .u64 a', .int .u64 b', .int .i64 s'] 25)).alloc (.cells #[.bool false, .int .u64 0, .int .u64 0, .int .i64 0] 25)) := by
    have h := (((HB.start (Below.refl _ w)).push #[.bool n, .int .u64 a, .int .u64 b, .int .i64 s] 25).push #[.bool n', .int .u64 a', .int .u64 b', .int .i64 s'] 25).push #[.bool false, .int .u64 0, .int .u64 0, .int .i64 0] 25
    simpa using h
  have hlg : w.heap.size ≤ w.heap.size + 1 + 1 := by omega
  have h0 := hr.2.1
  have h0' := hr'.2.1
  have h9 := hr.2.2.1
  have h9' := hr'.2.2.1
  have HR := Lib.hid (decide_eq_true hr)
  clear hr
  have HR' := Lib.hid (decide_eq_true hr')
  clear hr'
  have HM := Lib.hid hM
  have HN := Lib.hid hN
  clear hM hN
  obtain ⟨c, hc⟩ : ∃ c, cmpI M N = c := ⟨_, rfl⟩
  have HC := Lib.hid hc
  have HLE := Lib.hid hle
  have gc : 0 ≤ c := by rw [← hc]; unfold cmpI; split; omega; rw [if_neg (by omega)]; omega
  clear hc hle
  have ht9 : t ≤ 9 := by omega
  have hst : s ≤ t := by omega
  have hst' : s' ≤ t := by omega
  have b1 : t - s ≤ 9 := by omega
  have b2 : t - s' ≤ 9 := by omega
  rcases ht with ⟨hss, rfl⟩ | ⟨hss, rfl⟩
  · have hx9 := hss
    go_enter Tryz.func10, Tryz.ntmps10
    go_wp2_with fail
    refine (rdec_v n a b s true _ ha hb1 HR.out).mono ?_
    rintro e w1 ⟨_, rfl, rfl, hb⟩
    replace W := W.below hb
    clear hb
    obtain ⟨lq, q0, q1, q2, q3⟩ := HB.dec (t := 25) (g := w.heap.size + 1) (a := .bool n') (b := .int .u64 a') (c := .int .u64 b') (d := .int .i64 s') W (by simp)
    go_wp2_with fail
    refine (rdec_v n' a' b' s' true _ ha' hb1' HR'.out).mono ?_
    rintro e w2 ⟨_, rfl, rfl, hb⟩
    replace W := W.below hb
    clear hb lq q0 q1 q2 q3
    obtain ⟨lp, p0, p1, p2, p3⟩ := HB.dec (t := 25) (g := w.heap.size) (a := .bool n) (b := .int .u64 a) (c := .int .u64 b) (d := .int .i64 s) W (by simp)
    obtain ⟨lq, q0, q1, q2, q3⟩ := HB.dec (t := 25) (g := w.heap.size + 1) (a := .bool n') (b := .int .u64 a') (c := .int .u64 b') (d := .int .i64 s') W (by simp)
    go_wp2_with fail
    rw [show max s s' = s' by omega]
    go_wp2_with fail
    refine (rdigits_v n a b s s' M _ ha hb1 h0 hst ht9 HM.out).mono ?_
    rintro e w3 ⟨A1, n1, k1, d1, ⟨D1, N1, E1⟩, rfl, hb⟩
    have l1 : n1 ≤ 50 := lenA D1 N1 (by rw [E1, ← HM.out]; exact up_50 ha hb1 b1)
    have E1h := Lib.hid E1
    replace W := W.below hb
    clear E1 hb lp p0 p1 p2 p3 lq q0 q1 q2 q3
    obtain ⟨lq, q0, q1, q2, q3⟩ := HB.dec (t := 25) (g := w.heap.size + 1) (a := .bool n') (b := .int .u64 a') (c := .int .u64 b') (d := .int .i64 s') W (by simp)
    go_wp2_with fail
    refine (rdigits_v n' a' b' s' s' N _ ha' hb1' h0' hst' ht9 HN.out).mono ?_
    rintro e w4 ⟨A2, n2, k2, d2, ⟨D2, N2, E2⟩, rfl, hb⟩
    have l2 : n2 ≤ 50 := lenA D2 N2 (by rw [E2, ← HN.out]; exact up_50 ha' hb1' b2)
    replace D1 := D1.below hb
    have E2h := Lib.hid E2
    replace W := W.below hb
    clear E2 hb lq q0 q1 q2 q3
    obtain ⟨lp, p0, p1, p2, p3⟩ := HB.dec (t := 25) (g := w.heap.size) (a := .bool n) (b := .int .u64 a) (c := .int .u64 b) (d := .int .i64 s) W (by simp)
    obtain ⟨lq, q0, q1, q2, q3⟩ := HB.dec (t := 25) (g := w.heap.size + 1) (a := .bool n') (b := .int .u64 a') (c := .int .u64 b') (d := .int .i64 s') W (by simp)
    go_wp2_with fail
    refine (cmpNat_v A1 A2 n1 n2 k1 k2 d1 d2 c _ D1 D2 N1 N2 (by rw [E1h.out, E2h.out]; exact HC.out)).mono ?_
    rintro e w5 ⟨_, rfl, rfl, hb⟩
    replace D1 := D1.below hb
    replace D2 := D2.below hb
    replace W := W.below hb
    clear hb lp p0 p1 p2 p3 lq q0 q1 q2 q3
    have BZ : Blk w5 (w.heap.size + 1 + 1) 25 #[.bool false, .int .u64 0, .int .u64 0, .int .i64 0] := HB.blk (g := w.heap.size + 1 + 1) (t := 25) (cs := #[.bool false, .int .u64 0, .int .u64 0, .int .i64 0]) W (by simp)
    have VD : HB w [(w.heap.size + 1, 25, #[.bool n', .int .u64 a', .int .u64 b', .int .i64 s']), (w.heap.size, 25, #[.bool n, .int .u64 a, .int .u64 b, .int .i64 s])] w5.drew := (HB.sub W (by simp)).drew
    have hne : ∀ b0 ∈ ([(w.heap.size + 1, 25, #[.bool n', .int .u64 a', .int .u64 b', .int .i64 s']), (w.heap.size, 25, #[.bool n, .int .u64 a, .int .u64 b, .int .i64 s])] : List (Nat × TypeId × Array Value)), b0.1 ≠ w.heap.size + 1 + 1 := by intro b0 hb; simp at hb; rcases hb with rfl | rfl <;> simp <;> omega
    clear W
    go_upto_region 9 with fail
    refine wp_region_ord (S := fun W => HB w [(w.heap.size + 1, 25, #[.bool n', .int .u64 a', .int .u64 b', .int .i64 s']), (w.heap.size, 25, #[.bool n, .int .u64 a, .int .u64 b, .int .i64 s])] W) (by kernel_rfl) ?_
    refine ord_take (v := ?_) (i := 0) (fuel := 10) (by simp; rfl) (by kernel_rfl) (by kernel_rfl) (by kernel_rfl) (Or.inl ⟨by rfl, fun w' hSw => ?_⟩) VD ?_
    rotate_left
    · go_simp
      all_goals with_reducible rfl
    simp only [Act.put, List.setIfInBounds_toArray, List.set_cons_zero, List.set_cons_succ]
    refine ord_take (v := ?_) (i := 1) (fuel := 9) (by simp; rfl) (by kernel_rfl) (by kernel_rfl) (by kernel_rfl) (Or.inl ⟨by rfl, fun w' hSw => ?_⟩) VD ?_
    rotate_left
    · dsimp only at hSw
      obtain ⟨ql, q0, q1, q2, q3⟩ := HB.dec (t := 25) (g := w.heap.size) (a := .bool n) (b := .int .u64 a) (c := .int .u64 b) (d := .int .i64 s) hSw (by simp)
      go_simp
      all_goals with_reducible rfl
    simp only [Act.put, List.setIfInBounds_toArray, List.set_cons_zero, List.set_cons_succ]
    refine ord_take (v := ?_) (i := 2) (fuel := 8) (by simp; rfl) (by kernel_rfl) (by kernel_rfl) (by kernel_rfl) (Or.inl ⟨by rfl, fun w' hSw => ?_⟩) VD ?_
    rotate_left
    · go_simp
      all_goals with_reducible rfl
    simp only [Act.put, List.setIfInBounds_toArray, List.set_cons_zero, List.set_cons_succ]
    refine ord_take (v := ?_) (i := 3) (fuel := 7) (by simp; rfl) (by kernel_rfl) (by kernel_rfl) (by kernel_rfl) (Or.inl ⟨by rfl, fun w' hSw => ?_⟩) VD ?_
    rotate_left
    · go_simp
      all_goals with_reducible rfl
    simp only [Act.put, List.setIfInBounds_toArray, List.set_cons_zero, List.set_cons_succ]
    refine ord_take (v := ?_) (i := 5) (fuel := 6) (by simp; rfl) (by kernel_rfl) (by kernel_rfl) (by kernel_rfl) (Or.inl ⟨by rfl, fun w' hSw => ?_⟩) VD ?_
    rotate_left
    · go_simp
      all_goals with_reducible rfl
    simp only [Act.put, List.setIfInBounds_toArray, List.set_cons_zero, List.set_cons_succ]
    refine ord_call (f := 41) (args := #[.slice A1 n1 k1, .slice A2 n2 k2]) (w1 := w5.drew) (i := 4) (fuel := 5) (by simp; rfl) (by kernel_rfl) (by rfl) ?_ ?_
    · go_simp
      all_goals with_reducible rfl
    refine (subNat_f A1 A2 n1 n2 k1 k2 d1 d2 _ (by exact D1) (by exact D2) (by omega) (sub_len D1 D2 N2 (by rw [E1h.out, E2h.out]; exact HLE.out)) (by rw [E1h.out, E2h.out]; exact HLE.out)).mono ?_
    rintro e x1 ⟨A3, n3, k3, d3, ⟨D3, N3, E3, _⟩, rfl, hb⟩
    have V1 := VD.below hb
    have BY := (show Blk w5.drew (w.heap.size + 1 + 1) 25 #[.bool false, .int .u64 0, .int .u64 0, .int .i64 0] from BZ).below hb BZ.lt
    have E3h := Lib.hid (show dv d3 = M - N by rw [E3, E1h.out, E2h.out])
    clear hb VD BZ E3 D1 D2
    refine ⟨_, rfl, V1, ?_⟩
    simp only [Act.put, List.setIfInBounds_toArray, List.set_cons_zero, List.set_cons_succ]
    refine ord_call (f := 38) (args := #[.bool n, .slice A3 n3 k3, .int .i64 s']) (w1 := x1) (i := 6) (fuel := 4) (by simp; rfl) (by kernel_rfl) (by rfl) ?_ ?_
    · go_simp
      all_goals with_reducible rfl
    refine (make_all n A3 n3 k3 d3 (M - N) s' _ D3 N3 E3h.out).mono ?_
    rintro e x2 ⟨_, ⟨m4, c4, d4, q4, e4, D4, rfl⟩, rfl, hb⟩
    have V2 := V1.below hb
    have BX := BY.below hb BY.lt
    have HD4 := Lib.hid D4
    clear hb V1 BY D4 D3
    refine ⟨_, rfl, V2, ?_⟩
    simp only [Act.put, List.setIfInBounds_toArray, List.set_cons_zero, List.set_cons_succ]
    refine ord_take (v := ?_) (i := 7) (fuel := 3) (by simp; rfl) (by kernel_rfl) (by kernel_rfl) (by kernel_rfl) (Or.inl ⟨by rfl, fun w' hSw => ?_⟩) V2 ?_
    rotate_left
    · go_simp
      all_goals with_reducible rfl
    simp only [Act.put, List.setIfInBounds_toArray, List.set_cons_zero, List.set_cons_succ]
    refine ord_take (v := ?_) (i := 8) (fuel := 2) (by simp; rfl) (by kernel_rfl) (by kernel_rfl) (by kernel_rfl) (Or.inl ⟨by rfl, fun w' hSw => ?_⟩) V2 ?_
    rotate_left
    · go_simp
      all_goals with_reducible rfl
    simp only [Act.put, List.setIfInBounds_toArray, List.set_cons_zero, List.set_cons_succ]
    obtain ⟨lz, ⟨z0, z1, z2, z3⟩, y0, y1, y2, y3⟩ := blk_cells BX
    have VS1 := HB.set4 (a' := .bool m4) (b' := .int .u64 c4) (c' := .int .u64 d4) (d' := .int .i64 q4) V2 BX hlg hne
    have VS := HB.sub (bs' := [(w.heap.size + 1, 25, #[.bool n', .int .u64 a', .int .u64 b', .int .i64 s']), (w.heap.size, 25, #[.bool n, .int .u64 a, .int .u64 b, .int .i64 s])]) VS1 (by simp)
    refine ord_skip (w' := ((((x2.setCell ⟨w.heap.size + 1 + 1, 0, none⟩ (.bool m4)).setCell ⟨w.heap.size + 1 + 1, 1, none⟩ (.int .u64 c4)).setCell ⟨w.heap.size + 1 + 1, 2, none⟩ (.int .u64 d4)).setCell ⟨w.heap.size + 1 + 1, 3, none⟩ (.int .i64 q4))) (i := 9) (fuel := 1) (by simp; rfl) (by kernel_rfl) (by rfl) rfl ?_ VS ?_
    · go_simp
      all_goals with_reducible rfl
    refine ord_take (v := ?_) (i := 10) (fuel := 0) (by simp; rfl) (by kernel_rfl) (by kernel_rfl) (by kernel_rfl) (Or.inl ⟨by rfl, fun w' hSw => ?_⟩) VS ?_
    rotate_left
    · go_simp
      all_goals with_reducible rfl
    simp only [Act.put, List.setIfInBounds_toArray, List.set_cons_zero, List.set_cons_succ]
    obtain ⟨lt, t0, t1, t2, t3⟩ := HB.dec (t := 25) (g := w.heap.size + 1 + 1) (a := .bool m4) (b := .int .u64 c4) (c := .int .u64 d4) (d := .int .i64 q4) VS1 (by simp)
    have HB1 := Lib.hid VS.1
    clear VS VS1 V2 BX lz z0 z1 z2 z3 y0 y1 y2 y3
    refine ord_done (by kernel_rfl) ?_ _
    go_wp2
    exact bodyPost_ret (v := .tuple #[.agg #[.bool m4, .int .u64 c4, .int .u64 d4, .int .i64 q4], .int .i64 e4]) (by simp [results, Tryz.results10, go_sem, t0, t1, t2, t3]) rfl ⟨_, ⟨_, _, _, _, _, HD4.out, rfl⟩, rfl, HB1.out⟩
  · have hx9 := hss
    go_enter Tryz.func10, Tryz.ntmps10
    go_wp2_with fail
    refine (rdec_v n a b s true _ ha hb1 HR.out).mono ?_
    rintro e w1 ⟨_, rfl, rfl, hb⟩
    replace W := W.below hb
    clear hb
    obtain ⟨lq, q0, q1, q2, q3⟩ := HB.dec (t := 25) (g := w.heap.size + 1) (a := .bool n') (b := .int .u64 a') (c := .int .u64 b') (d := .int .i64 s') W (by simp)
    go_wp2_with fail
    refine (rdec_v n' a' b' s' true _ ha' hb1' HR'.out).mono ?_
    rintro e w2 ⟨_, rfl, rfl, hb⟩
    replace W := W.below hb
    clear hb lq q0 q1 q2 q3
    obtain ⟨lp, p0, p1, p2, p3⟩ := HB.dec (t := 25) (g := w.heap.size) (a := .bool n) (b := .int .u64 a) (c := .int .u64 b) (d := .int .i64 s) W (by simp)
    obtain ⟨lq, q0, q1, q2, q3⟩ := HB.dec (t := 25) (g := w.heap.size + 1) (a := .bool n') (b := .int .u64 a') (c := .int .u64 b') (d := .int .i64 s') W (by simp)
    go_wp2_with fail
    rw [show max s s' = s by omega]
    go_wp2_with fail
    refine (rdigits_v n a b s s M _ ha hb1 h0 hst ht9 HM.out).mono ?_
    rintro e w3 ⟨A1, n1, k1, d1, ⟨D1, N1, E1⟩, rfl, hb⟩
    have l1 : n1 ≤ 50 := lenA D1 N1 (by rw [E1, ← HM.out]; exact up_50 ha hb1 b1)
    have E1h := Lib.hid E1
    replace W := W.below hb
    clear E1 hb lp p0 p1 p2 p3 lq q0 q1 q2 q3
    obtain ⟨lq, q0, q1, q2, q3⟩ := HB.dec (t := 25) (g := w.heap.size + 1) (a := .bool n') (b := .int .u64 a') (c := .int .u64 b') (d := .int .i64 s') W (by simp)
    go_wp2_with fail
    refine (rdigits_v n' a' b' s' s N _ ha' hb1' h0' hst' ht9 HN.out).mono ?_
    rintro e w4 ⟨A2, n2, k2, d2, ⟨D2, N2, E2⟩, rfl, hb⟩
    have l2 : n2 ≤ 50 := lenA D2 N2 (by rw [E2, ← HN.out]; exact up_50 ha' hb1' b2)
    replace D1 := D1.below hb
    have E2h := Lib.hid E2
    replace W := W.below hb
    clear E2 hb lq q0 q1 q2 q3
    obtain ⟨lp, p0, p1, p2, p3⟩ := HB.dec (t := 25) (g := w.heap.size) (a := .bool n) (b := .int .u64 a) (c := .int .u64 b) (d := .int .i64 s) W (by simp)
    obtain ⟨lq, q0, q1, q2, q3⟩ := HB.dec (t := 25) (g := w.heap.size + 1) (a := .bool n') (b := .int .u64 a') (c := .int .u64 b') (d := .int .i64 s') W (by simp)
    go_wp2_with fail
    refine (cmpNat_v A1 A2 n1 n2 k1 k2 d1 d2 c _ D1 D2 N1 N2 (by rw [E1h.out, E2h.out]; exact HC.out)).mono ?_
    rintro e w5 ⟨_, rfl, rfl, hb⟩
    replace D1 := D1.below hb
    replace D2 := D2.below hb
    replace W := W.below hb
    clear hb lp p0 p1 p2 p3 lq q0 q1 q2 q3
    have BZ : Blk w5 (w.heap.size + 1 + 1) 25 #[.bool false, .int .u64 0, .int .u64 0, .int .i64 0] := HB.blk (g := w.heap.size + 1 + 1) (t := 25) (cs := #[.bool false, .int .u64 0, .int .u64 0, .int .i64 0]) W (by simp)
    have VD : HB w [(w.heap.size + 1, 25, #[.bool n', .int .u64 a', .int .u64 b', .int .i64 s']), (w.heap.size, 25, #[.bool n, .int .u64 a, .int .u64 b, .int .i64 s])] w5.drew := (HB.sub W (by simp)).drew
    have hne : ∀ b0 ∈ ([(w.heap.size + 1, 25, #[.bool n', .int .u64 a', .int .u64 b', .int .i64 s']), (w.heap.size, 25, #[.bool n, .int .u64 a, .int .u64 b, .int .i64 s])] : List (Nat × TypeId × Array Value)), b0.1 ≠ w.heap.size + 1 + 1 := by intro b0 hb; simp at hb; rcases hb with rfl | rfl <;> simp <;> omega
    clear W
    go_upto_region 9 with fail
    refine wp_region_ord (S := fun W => HB w [(w.heap.size + 1, 25, #[.bool n', .int .u64 a', .int .u64 b', .int .i64 s']), (w.heap.size, 25, #[.bool n, .int .u64 a, .int .u64 b, .int .i64 s])] W) (by kernel_rfl) ?_
    refine ord_take (v := ?_) (i := 0) (fuel := 10) (by simp; rfl) (by kernel_rfl) (by kernel_rfl) (by kernel_rfl) (Or.inl ⟨by rfl, fun w' hSw => ?_⟩) VD ?_
    rotate_left
    · go_simp
      all_goals with_reducible rfl
    simp only [Act.put, List.setIfInBounds_toArray, List.set_cons_zero, List.set_cons_succ]
    refine ord_take (v := ?_) (i := 1) (fuel := 9) (by simp; rfl) (by kernel_rfl) (by kernel_rfl) (by kernel_rfl) (Or.inl ⟨by rfl, fun w' hSw => ?_⟩) VD ?_
    rotate_left
    · dsimp only at hSw
      obtain ⟨ql, q0, q1, q2, q3⟩ := HB.dec (t := 25) (g := w.heap.size) (a := .bool n) (b := .int .u64 a) (c := .int .u64 b) (d := .int .i64 s) hSw (by simp)
      go_simp
      all_goals with_reducible rfl
    simp only [Act.put, List.setIfInBounds_toArray, List.set_cons_zero, List.set_cons_succ]
    refine ord_take (v := ?_) (i := 2) (fuel := 8) (by simp; rfl) (by kernel_rfl) (by kernel_rfl) (by kernel_rfl) (Or.inl ⟨by rfl, fun w' hSw => ?_⟩) VD ?_
    rotate_left
    · go_simp
      all_goals with_reducible rfl
    simp only [Act.put, List.setIfInBounds_toArray, List.set_cons_zero, List.set_cons_succ]
    refine ord_take (v := ?_) (i := 3) (fuel := 7) (by simp; rfl) (by kernel_rfl) (by kernel_rfl) (by kernel_rfl) (Or.inl ⟨by rfl, fun w' hSw => ?_⟩) VD ?_
    rotate_left
    · go_simp
      all_goals with_reducible rfl
    simp only [Act.put, List.setIfInBounds_toArray, List.set_cons_zero, List.set_cons_succ]
    refine ord_take (v := ?_) (i := 5) (fuel := 6) (by simp; rfl) (by kernel_rfl) (by kernel_rfl) (by kernel_rfl) (Or.inl ⟨by rfl, fun w' hSw => ?_⟩) VD ?_
    rotate_left
    · go_simp
      all_goals with_reducible rfl
    simp only [Act.put, List.setIfInBounds_toArray, List.set_cons_zero, List.set_cons_succ]
    refine ord_call (f := 41) (args := #[.slice A1 n1 k1, .slice A2 n2 k2]) (w1 := w5.drew) (i := 4) (fuel := 5) (by simp; rfl) (by kernel_rfl) (by rfl) ?_ ?_
    · go_simp
      all_goals with_reducible rfl
    refine (subNat_f A1 A2 n1 n2 k1 k2 d1 d2 _ (by exact D1) (by exact D2) (by omega) (sub_len D1 D2 N2 (by rw [E1h.out, E2h.out]; exact HLE.out)) (by rw [E1h.out, E2h.out]; exact HLE.out)).mono ?_
    rintro e x1 ⟨A3, n3, k3, d3, ⟨D3, N3, E3, _⟩, rfl, hb⟩
    have V1 := VD.below hb
    have BY := (show Blk w5.drew (w.heap.size + 1 + 1) 25 #[.bool false, .int .u64 0, .int .u64 0, .int .i64 0] from BZ).below hb BZ.lt
    have E3h := Lib.hid (show dv d3 = M - N by rw [E3, E1h.out, E2h.out])
    clear hb VD BZ E3 D1 D2
    refine ⟨_, rfl, V1, ?_⟩
    simp only [Act.put, List.setIfInBounds_toArray, List.set_cons_zero, List.set_cons_succ]
    refine ord_call (f := 38) (args := #[.bool n, .slice A3 n3 k3, .int .i64 s]) (w1 := x1) (i := 6) (fuel := 4) (by simp; rfl) (by kernel_rfl) (by rfl) ?_ ?_
    · go_simp
      all_goals with_reducible rfl
    refine (make_all n A3 n3 k3 d3 (M - N) s _ D3 N3 E3h.out).mono ?_
    rintro e x2 ⟨_, ⟨m4, c4, d4, q4, e4, D4, rfl⟩, rfl, hb⟩
    have V2 := V1.below hb
    have BX := BY.below hb BY.lt
    have HD4 := Lib.hid D4
    clear hb V1 BY D4 D3
    refine ⟨_, rfl, V2, ?_⟩
    simp only [Act.put, List.setIfInBounds_toArray, List.set_cons_zero, List.set_cons_succ]
    refine ord_take (v := ?_) (i := 7) (fuel := 3) (by simp; rfl) (by kernel_rfl) (by kernel_rfl) (by kernel_rfl) (Or.inl ⟨by rfl, fun w' hSw => ?_⟩) V2 ?_
    rotate_left
    · go_simp
      all_goals with_reducible rfl
    simp only [Act.put, List.setIfInBounds_toArray, List.set_cons_zero, List.set_cons_succ]
    refine ord_take (v := ?_) (i := 8) (fuel := 2) (by simp; rfl) (by kernel_rfl) (by kernel_rfl) (by kernel_rfl) (Or.inl ⟨by rfl, fun w' hSw => ?_⟩) V2 ?_
    rotate_left
    · go_simp
      all_goals with_reducible rfl
    simp only [Act.put, List.setIfInBounds_toArray, List.set_cons_zero, List.set_cons_succ]
    obtain ⟨lz, ⟨z0, z1, z2, z3⟩, y0, y1, y2, y3⟩ := blk_cells BX
    have VS1 := HB.set4 (a' := .bool m4) (b' := .int .u64 c4) (c' := .int .u64 d4) (d' := .int .i64 q4) V2 BX hlg hne
    have VS := HB.sub (bs' := [(w.heap.size + 1, 25, #[.bool n', .int .u64 a', .int .u64 b', .int .i64 s']), (w.heap.size, 25, #[.bool n, .int .u64 a, .int .u64 b, .int .i64 s])]) VS1 (by simp)
    refine ord_skip (w' := ((((x2.setCell ⟨w.heap.size + 1 + 1, 0, none⟩ (.bool m4)).setCell ⟨w.heap.size + 1 + 1, 1, none⟩ (.int .u64 c4)).setCell ⟨w.heap.size + 1 + 1, 2, none⟩ (.int .u64 d4)).setCell ⟨w.heap.size + 1 + 1, 3, none⟩ (.int .i64 q4))) (i := 9) (fuel := 1) (by simp; rfl) (by kernel_rfl) (by rfl) rfl ?_ VS ?_
    · go_simp
      all_goals with_reducible rfl
    refine ord_take (v := ?_) (i := 10) (fuel := 0) (by simp; rfl) (by kernel_rfl) (by kernel_rfl) (by kernel_rfl) (Or.inl ⟨by rfl, fun w' hSw => ?_⟩) VS ?_
    rotate_left
    · go_simp
      all_goals with_reducible rfl
    simp only [Act.put, List.setIfInBounds_toArray, List.set_cons_zero, List.set_cons_succ]
    obtain ⟨lt, t0, t1, t2, t3⟩ := HB.dec (t := 25) (g := w.heap.size + 1 + 1) (a := .bool m4) (b := .int .u64 c4) (c := .int .u64 d4) (d := .int .i64 q4) VS1 (by simp)
    have HB1 := Lib.hid VS.1
    clear VS VS1 V2 BX lz z0 z1 z2 z3 y0 y1 y2 y3
    refine ord_done (by kernel_rfl) ?_ _
    go_wp2
    exact bodyPost_ret (v := .tuple #[.agg #[.bool m4, .int .u64 c4, .int .u64 d4, .int .i64 q4], .int .i64 e4]) (by simp [results, Tryz.results10, go_sem, t0, t1, t2, t3]) rfl ⟨_, ⟨_, _, _, _, _, HD4.out, rfl⟩, rfl, HB1.out⟩
set_option maxRecDepth 100000 in
set_option maxHeartbeats 3200000 in
theorem radd_lt (n : Bool) (n' : Bool) (a b s a' b' s' t : Int) (M N : Nat) (w : World) (ha : U64 a) (hb1 : U64 b) (ha' : U64 a') (hb1' : U64 b') (hr : RightD n a b s) (hr' : RightD n' a' b' s') (ht : (s < s' ∧ s' = t) ∨ (s' ≤ s ∧ s = t)) (hM : upW a b s t = M) (hN : upW a' b' s' t = N) (hn : (n == n') = false) (hlt : M < N) :
    Calls Tryz.prog 10 #[.agg #[.bool n, .int .u64 a, .int .u64 b, .int .i64 s], .agg #[.bool n', .int .u64 a', .int .u64 b', .int .i64 s']] w (Ret w (Ans (chkV n' (N - M) t))) := by
  have W : HB w [(w.heap.size + 1 + 1, 25, #[.bool false, .int .u64 0, .int .u64 0, .int .i64 0]), (w.heap.size + 1, 25, #[.bool n', .int .u64 a', .int .u64 b', .int .i64 s']), (w.heap.size, 25, #[.bool n, .int .u64 a, .int .u64 b, .int .i64 s])] (((w.alloc (.cells #[.bool n, .int .u64 a, .int .u64 b, .int .i64 s] 25)).alloc (.cells #[.bool n', .int .u64 a', .int .u64 b', .int .i64 s'] 25)).alloc (.cells #[.bool false, .int .u64 0, .int .u64 0, .int .i64 0] 25)) := by
    have h := (((HB.start (Below.refl _ w)).push #[.bool n, .int .u64 a, .int .u64 b, .int .i64 s] 25).push #[.bool n', .int .u64 a', .int .u64 b', .int .i64 s'] 25).push #[.bool false, .int .u64 0, .int .u64 0, .int .i64 0] 25
    simpa using h
  have hlg : w.heap.size ≤ w.heap.size + 1 + 1 := by omega
  have h0 := hr.2.1
  have h0' := hr'.2.1
  have h9 := hr.2.2.1
  have h9' := hr'.2.2.1
  have HR := Lib.hid (decide_eq_true hr)
  clear hr
  have HR' := Lib.hid (decide_eq_true hr')
  clear hr'
  have HM := Lib.hid hM
  have HN := Lib.hid hN
  clear hM hN
  have hle : M ≤ N := by omega
  obtain ⟨c, hc⟩ : ∃ c, cmpI M N = c := ⟨_, rfl⟩
  have HC := Lib.hid hc
  have HLE := Lib.hid hle
  have gc : decide (0 ≤ c) = false := by rw [← hc]; unfold cmpI; rw [if_neg (by omega), if_pos hlt]; rfl
  clear hc hle hlt
  have ht9 : t ≤ 9 := by omega
  have hst : s ≤ t := by omega
  have hst' : s' ≤ t := by omega
  have b1 : t - s ≤ 9 := by omega
  have b2 : t - s' ≤ 9 := by omega
  rcases ht with ⟨hss, rfl⟩ | ⟨hss, rfl⟩
  · have hx9 := hss
    go_enter Tryz.func10, Tryz.ntmps10
    go_wp2_with fail
    refine (rdec_v n a b s true _ ha hb1 HR.out).mono ?_
    rintro e w1 ⟨_, rfl, rfl, hb⟩
    replace W := W.below hb
    clear hb
    obtain ⟨lq, q0, q1, q2, q3⟩ := HB.dec (t := 25) (g := w.heap.size + 1) (a := .bool n') (b := .int .u64 a') (c := .int .u64 b') (d := .int .i64 s') W (by simp)
    go_wp2_with fail
    refine (rdec_v n' a' b' s' true _ ha' hb1' HR'.out).mono ?_
    rintro e w2 ⟨_, rfl, rfl, hb⟩
    replace W := W.below hb
    clear hb lq q0 q1 q2 q3
    obtain ⟨lp, p0, p1, p2, p3⟩ := HB.dec (t := 25) (g := w.heap.size) (a := .bool n) (b := .int .u64 a) (c := .int .u64 b) (d := .int .i64 s) W (by simp)
    obtain ⟨lq, q0, q1, q2, q3⟩ := HB.dec (t := 25) (g := w.heap.size + 1) (a := .bool n') (b := .int .u64 a') (c := .int .u64 b') (d := .int .i64 s') W (by simp)
    go_wp2_with fail
    rw [show max s s' = s' by omega]
    go_wp2_with fail
    refine (rdigits_v n a b s s' M _ ha hb1 h0 hst ht9 HM.out).mono ?_
    rintro e w3 ⟨A1, n1, k1, d1, ⟨D1, N1, E1⟩, rfl, hb⟩
    have l1 : n1 ≤ 50 := lenA D1 N1 (by rw [E1, ← HM.out]; exact up_50 ha hb1 b1)
    have E1h := Lib.hid E1
    replace W := W.below hb
    clear E1 hb lp p0 p1 p2 p3 lq q0 q1 q2 q3
    obtain ⟨lq, q0, q1, q2, q3⟩ := HB.dec (t := 25) (g := w.heap.size + 1) (a := .bool n') (b := .int .u64 a') (c := .int .u64 b') (d := .int .i64 s') W (by simp)
    go_wp2_with fail
    refine (rdigits_v n' a' b' s' s' N _ ha' hb1' h0' hst' ht9 HN.out).mono ?_
    rintro e w4 ⟨A2, n2, k2, d2, ⟨D2, N2, E2⟩, rfl, hb⟩
    have l2 : n2 ≤ 50 := lenA D2 N2 (by rw [E2, ← HN.out]; exact up_50 ha' hb1' b2)
    replace D1 := D1.below hb
    have E2h := Lib.hid E2
    replace W := W.below hb
    clear E2 hb lq q0 q1 q2 q3
    obtain ⟨lp, p0, p1, p2, p3⟩ := HB.dec (t := 25) (g := w.heap.size) (a := .bool n) (b := .int .u64 a) (c := .int .u64 b) (d := .int .i64 s) W (by simp)
    obtain ⟨lq, q0, q1, q2, q3⟩ := HB.dec (t := 25) (g := w.heap.size + 1) (a := .bool n') (b := .int .u64 a') (c := .int .u64 b') (d := .int .i64 s') W (by simp)
    go_wp2_with fail
    refine (cmpNat_v A1 A2 n1 n2 k1 k2 d1 d2 c _ D1 D2 N1 N2 (by rw [E1h.out, E2h.out]; exact HC.out)).mono ?_
    rintro e w5 ⟨_, rfl, rfl, hb⟩
    replace D1 := D1.below hb
    replace D2 := D2.below hb
    replace W := W.below hb
    clear hb lp p0 p1 p2 p3 lq q0 q1 q2 q3
    have BZ : Blk w5 (w.heap.size + 1 + 1) 25 #[.bool false, .int .u64 0, .int .u64 0, .int .i64 0] := HB.blk (g := w.heap.size + 1 + 1) (t := 25) (cs := #[.bool false, .int .u64 0, .int .u64 0, .int .i64 0]) W (by simp)
    have VD : HB w [(w.heap.size + 1, 25, #[.bool n', .int .u64 a', .int .u64 b', .int .i64 s']), (w.heap.size, 25, #[.bool n, .int .u64 a, .int .u64 b, .int .i64 s])] w5.drew := (HB.sub W (by simp)).drew
    have hne : ∀ b0 ∈ ([(w.heap.size + 1, 25, #[.bool n', .int .u64 a', .int .u64 b', .int .i64 s']), (w.heap.size, 25, #[.bool n, .int .u64 a, .int .u64 b, .int .i64 s])] : List (Nat × TypeId × Array Value)), b0.1 ≠ w.heap.size + 1 + 1 := by intro b0 hb; simp at hb; rcases hb with rfl | rfl <;> simp <;> omega
    clear W
    go_upto_region 10 with fail
    refine wp_region_ord (S := fun W => HB w [(w.heap.size + 1, 25, #[.bool n', .int .u64 a', .int .u64 b', .int .i64 s']), (w.heap.size, 25, #[.bool n, .int .u64 a, .int .u64 b, .int .i64 s])] W) (by kernel_rfl) ?_
    refine ord_take (v := ?_) (i := 0) (fuel := 10) (by simp; rfl) (by kernel_rfl) (by kernel_rfl) (by kernel_rfl) (Or.inl ⟨by rfl, fun w' hSw => ?_⟩) VD ?_
    rotate_left
    · go_simp
      all_goals with_reducible rfl
    simp only [Act.put, List.setIfInBounds_toArray, List.set_cons_zero, List.set_cons_succ]
    refine ord_take (v := ?_) (i := 1) (fuel := 9) (by simp; rfl) (by kernel_rfl) (by kernel_rfl) (by kernel_rfl) (Or.inl ⟨by rfl, fun w' hSw => ?_⟩) VD ?_
    rotate_left
    · dsimp only at hSw
      obtain ⟨ql, q0, q1, q2, q3⟩ := HB.dec (t := 25) (g := w.heap.size + 1) (a := .bool n') (b := .int .u64 a') (c := .int .u64 b') (d := .int .i64 s') hSw (by simp)
      go_simp
      all_goals with_reducible rfl
    simp only [Act.put, List.setIfInBounds_toArray, List.set_cons_zero, List.set_cons_succ]
    refine ord_take (v := ?_) (i := 2) (fuel := 8) (by simp; rfl) (by kernel_rfl) (by kernel_rfl) (by kernel_rfl) (Or.inl ⟨by rfl, fun w' hSw => ?_⟩) VD ?_
    rotate_left
    · go_simp
      all_goals with_reducible rfl
    simp only [Act.put, List.setIfInBounds_toArray, List.set_cons_zero, List.set_cons_succ]
    refine ord_take (v := ?_) (i := 3) (fuel := 7) (by simp; rfl) (by kernel_rfl) (by kernel_rfl) (by kernel_rfl) (Or.inl ⟨by rfl, fun w' hSw => ?_⟩) VD ?_
    rotate_left
    · go_simp
      all_goals with_reducible rfl
    simp only [Act.put, List.setIfInBounds_toArray, List.set_cons_zero, List.set_cons_succ]
    refine ord_take (v := ?_) (i := 5) (fuel := 6) (by simp; rfl) (by kernel_rfl) (by kernel_rfl) (by kernel_rfl) (Or.inl ⟨by rfl, fun w' hSw => ?_⟩) VD ?_
    rotate_left
    · go_simp
      all_goals with_reducible rfl
    simp only [Act.put, List.setIfInBounds_toArray, List.set_cons_zero, List.set_cons_succ]
    refine ord_call (f := 41) (args := #[.slice A2 n2 k2, .slice A1 n1 k1]) (w1 := w5.drew) (i := 4) (fuel := 5) (by simp; rfl) (by kernel_rfl) (by rfl) ?_ ?_
    · go_simp
      all_goals with_reducible rfl
    refine (subNat_f A2 A1 n2 n1 k2 k1 d2 d1 _ (by exact D2) (by exact D1) (by omega) (sub_len D2 D1 N1 (by rw [E1h.out, E2h.out]; exact HLE.out)) (by rw [E1h.out, E2h.out]; exact HLE.out)).mono ?_
    rintro e x1 ⟨A3, n3, k3, d3, ⟨D3, N3, E3, _⟩, rfl, hb⟩
    have V1 := VD.below hb
    have BY := (show Blk w5.drew (w.heap.size + 1 + 1) 25 #[.bool false, .int .u64 0, .int .u64 0, .int .i64 0] from BZ).below hb BZ.lt
    have E3h := Lib.hid (show dv d3 = N - M by rw [E3, E1h.out, E2h.out])
    clear hb VD BZ E3 D1 D2
    refine ⟨_, rfl, V1, ?_⟩
    simp only [Act.put, List.setIfInBounds_toArray, List.set_cons_zero, List.set_cons_succ]
    refine ord_call (f := 38) (args := #[.bool n', .slice A3 n3 k3, .int .i64 s']) (w1 := x1) (i := 6) (fuel := 4) (by simp; rfl) (by kernel_rfl) (by rfl) ?_ ?_
    · go_simp
      all_goals with_reducible rfl
    refine (make_all n' A3 n3 k3 d3 (N - M) s' _ D3 N3 E3h.out).mono ?_
    rintro e x2 ⟨_, ⟨m4, c4, d4, q4, e4, D4, rfl⟩, rfl, hb⟩
    have V2 := V1.below hb
    have BX := BY.below hb BY.lt
    have HD4 := Lib.hid D4
    clear hb V1 BY D4 D3
    refine ⟨_, rfl, V2, ?_⟩
    simp only [Act.put, List.setIfInBounds_toArray, List.set_cons_zero, List.set_cons_succ]
    refine ord_take (v := ?_) (i := 7) (fuel := 3) (by simp; rfl) (by kernel_rfl) (by kernel_rfl) (by kernel_rfl) (Or.inl ⟨by rfl, fun w' hSw => ?_⟩) V2 ?_
    rotate_left
    · go_simp
      all_goals with_reducible rfl
    simp only [Act.put, List.setIfInBounds_toArray, List.set_cons_zero, List.set_cons_succ]
    refine ord_take (v := ?_) (i := 8) (fuel := 2) (by simp; rfl) (by kernel_rfl) (by kernel_rfl) (by kernel_rfl) (Or.inl ⟨by rfl, fun w' hSw => ?_⟩) V2 ?_
    rotate_left
    · go_simp
      all_goals with_reducible rfl
    simp only [Act.put, List.setIfInBounds_toArray, List.set_cons_zero, List.set_cons_succ]
    obtain ⟨lz, ⟨z0, z1, z2, z3⟩, y0, y1, y2, y3⟩ := blk_cells BX
    have VS1 := HB.set4 (a' := .bool m4) (b' := .int .u64 c4) (c' := .int .u64 d4) (d' := .int .i64 q4) V2 BX hlg hne
    have VS := HB.sub (bs' := [(w.heap.size + 1, 25, #[.bool n', .int .u64 a', .int .u64 b', .int .i64 s']), (w.heap.size, 25, #[.bool n, .int .u64 a, .int .u64 b, .int .i64 s])]) VS1 (by simp)
    refine ord_skip (w' := ((((x2.setCell ⟨w.heap.size + 1 + 1, 0, none⟩ (.bool m4)).setCell ⟨w.heap.size + 1 + 1, 1, none⟩ (.int .u64 c4)).setCell ⟨w.heap.size + 1 + 1, 2, none⟩ (.int .u64 d4)).setCell ⟨w.heap.size + 1 + 1, 3, none⟩ (.int .i64 q4))) (i := 9) (fuel := 1) (by simp; rfl) (by kernel_rfl) (by rfl) rfl ?_ VS ?_
    · go_simp
      all_goals with_reducible rfl
    refine ord_take (v := ?_) (i := 10) (fuel := 0) (by simp; rfl) (by kernel_rfl) (by kernel_rfl) (by kernel_rfl) (Or.inl ⟨by rfl, fun w' hSw => ?_⟩) VS ?_
    rotate_left
    · go_simp
      all_goals with_reducible rfl
    simp only [Act.put, List.setIfInBounds_toArray, List.set_cons_zero, List.set_cons_succ]
    obtain ⟨lt, t0, t1, t2, t3⟩ := HB.dec (t := 25) (g := w.heap.size + 1 + 1) (a := .bool m4) (b := .int .u64 c4) (c := .int .u64 d4) (d := .int .i64 q4) VS1 (by simp)
    have HB1 := Lib.hid VS.1
    clear VS VS1 V2 BX lz z0 z1 z2 z3 y0 y1 y2 y3
    refine ord_done (by kernel_rfl) ?_ _
    go_wp2
    exact bodyPost_ret (v := .tuple #[.agg #[.bool m4, .int .u64 c4, .int .u64 d4, .int .i64 q4], .int .i64 e4]) (by simp [results, Tryz.results10, go_sem, t0, t1, t2, t3]) rfl ⟨_, ⟨_, _, _, _, _, HD4.out, rfl⟩, rfl, HB1.out⟩
  · have hx9 := hss
    go_enter Tryz.func10, Tryz.ntmps10
    go_wp2_with fail
    refine (rdec_v n a b s true _ ha hb1 HR.out).mono ?_
    rintro e w1 ⟨_, rfl, rfl, hb⟩
    replace W := W.below hb
    clear hb
    obtain ⟨lq, q0, q1, q2, q3⟩ := HB.dec (t := 25) (g := w.heap.size + 1) (a := .bool n') (b := .int .u64 a') (c := .int .u64 b') (d := .int .i64 s') W (by simp)
    go_wp2_with fail
    refine (rdec_v n' a' b' s' true _ ha' hb1' HR'.out).mono ?_
    rintro e w2 ⟨_, rfl, rfl, hb⟩
    replace W := W.below hb
    clear hb lq q0 q1 q2 q3
    obtain ⟨lp, p0, p1, p2, p3⟩ := HB.dec (t := 25) (g := w.heap.size) (a := .bool n) (b := .int .u64 a) (c := .int .u64 b) (d := .int .i64 s) W (by simp)
    obtain ⟨lq, q0, q1, q2, q3⟩ := HB.dec (t := 25) (g := w.heap.size + 1) (a := .bool n') (b := .int .u64 a') (c := .int .u64 b') (d := .int .i64 s') W (by simp)
    go_wp2_with fail
    rw [show max s s' = s by omega]
    go_wp2_with fail
    refine (rdigits_v n a b s s M _ ha hb1 h0 hst ht9 HM.out).mono ?_
    rintro e w3 ⟨A1, n1, k1, d1, ⟨D1, N1, E1⟩, rfl, hb⟩
    have l1 : n1 ≤ 50 := lenA D1 N1 (by rw [E1, ← HM.out]; exact up_50 ha hb1 b1)
    have E1h := Lib.hid E1
    replace W := W.below hb
    clear E1 hb lp p0 p1 p2 p3 lq q0 q1 q2 q3
    obtain ⟨lq, q0, q1, q2, q3⟩ := HB.dec (t := 25) (g := w.heap.size + 1) (a := .bool n') (b := .int .u64 a') (c := .int .u64 b') (d := .int .i64 s') W (by simp)
    go_wp2_with fail
    refine (rdigits_v n' a' b' s' s N _ ha' hb1' h0' hst' ht9 HN.out).mono ?_
    rintro e w4 ⟨A2, n2, k2, d2, ⟨D2, N2, E2⟩, rfl, hb⟩
    have l2 : n2 ≤ 50 := lenA D2 N2 (by rw [E2, ← HN.out]; exact up_50 ha' hb1' b2)
    replace D1 := D1.below hb
    have E2h := Lib.hid E2
    replace W := W.below hb
    clear E2 hb lq q0 q1 q2 q3
    obtain ⟨lp, p0, p1, p2, p3⟩ := HB.dec (t := 25) (g := w.heap.size) (a := .bool n) (b := .int .u64 a) (c := .int .u64 b) (d := .int .i64 s) W (by simp)
    obtain ⟨lq, q0, q1, q2, q3⟩ := HB.dec (t := 25) (g := w.heap.size + 1) (a := .bool n') (b := .int .u64 a') (c := .int .u64 b') (d := .int .i64 s') W (by simp)
    go_wp2_with fail
    refine (cmpNat_v A1 A2 n1 n2 k1 k2 d1 d2 c _ D1 D2 N1 N2 (by rw [E1h.out, E2h.out]; exact HC.out)).mono ?_
    rintro e w5 ⟨_, rfl, rfl, hb⟩
    replace D1 := D1.below hb
    replace D2 := D2.below hb
    replace W := W.below hb
    clear hb lp p0 p1 p2 p3 lq q0 q1 q2 q3
    have BZ : Blk w5 (w.heap.size + 1 + 1) 25 #[.bool false, .int .u64 0, .int .u64 0, .int .i64 0] := HB.blk (g := w.heap.size + 1 + 1) (t := 25) (cs := #[.bool false, .int .u64 0, .int .u64 0, .int .i64 0]) W (by simp)
    have VD : HB w [(w.heap.size + 1, 25, #[.bool n', .int .u64 a', .int .u64 b', .int .i64 s']), (w.heap.size, 25, #[.bool n, .int .u64 a, .int .u64 b, .int .i64 s])] w5.drew := (HB.sub W (by simp)).drew
    have hne : ∀ b0 ∈ ([(w.heap.size + 1, 25, #[.bool n', .int .u64 a', .int .u64 b', .int .i64 s']), (w.heap.size, 25, #[.bool n, .int .u64 a, .int .u64 b, .int .i64 s])] : List (Nat × TypeId × Array Value)), b0.1 ≠ w.heap.size + 1 + 1 := by intro b0 hb; simp at hb; rcases hb with rfl | rfl <;> simp <;> omega
    clear W
    go_upto_region 10 with fail
    refine wp_region_ord (S := fun W => HB w [(w.heap.size + 1, 25, #[.bool n', .int .u64 a', .int .u64 b', .int .i64 s']), (w.heap.size, 25, #[.bool n, .int .u64 a, .int .u64 b, .int .i64 s])] W) (by kernel_rfl) ?_
    refine ord_take (v := ?_) (i := 0) (fuel := 10) (by simp; rfl) (by kernel_rfl) (by kernel_rfl) (by kernel_rfl) (Or.inl ⟨by rfl, fun w' hSw => ?_⟩) VD ?_
    rotate_left
    · go_simp
      all_goals with_reducible rfl
    simp only [Act.put, List.setIfInBounds_toArray, List.set_cons_zero, List.set_cons_succ]
    refine ord_take (v := ?_) (i := 1) (fuel := 9) (by simp; rfl) (by kernel_rfl) (by kernel_rfl) (by kernel_rfl) (Or.inl ⟨by rfl, fun w' hSw => ?_⟩) VD ?_
    rotate_left
    · dsimp only at hSw
      obtain ⟨ql, q0, q1, q2, q3⟩ := HB.dec (t := 25) (g := w.heap.size + 1) (a := .bool n') (b := .int .u64 a') (c := .int .u64 b') (d := .int .i64 s') hSw (by simp)
      go_simp
      all_goals with_reducible rfl
    simp only [Act.put, List.setIfInBounds_toArray, List.set_cons_zero, List.set_cons_succ]
    refine ord_take (v := ?_) (i := 2) (fuel := 8) (by simp; rfl) (by kernel_rfl) (by kernel_rfl) (by kernel_rfl) (Or.inl ⟨by rfl, fun w' hSw => ?_⟩) VD ?_
    rotate_left
    · go_simp
      all_goals with_reducible rfl
    simp only [Act.put, List.setIfInBounds_toArray, List.set_cons_zero, List.set_cons_succ]
    refine ord_take (v := ?_) (i := 3) (fuel := 7) (by simp; rfl) (by kernel_rfl) (by kernel_rfl) (by kernel_rfl) (Or.inl ⟨by rfl, fun w' hSw => ?_⟩) VD ?_
    rotate_left
    · go_simp
      all_goals with_reducible rfl
    simp only [Act.put, List.setIfInBounds_toArray, List.set_cons_zero, List.set_cons_succ]
    refine ord_take (v := ?_) (i := 5) (fuel := 6) (by simp; rfl) (by kernel_rfl) (by kernel_rfl) (by kernel_rfl) (Or.inl ⟨by rfl, fun w' hSw => ?_⟩) VD ?_
    rotate_left
    · go_simp
      all_goals with_reducible rfl
    simp only [Act.put, List.setIfInBounds_toArray, List.set_cons_zero, List.set_cons_succ]
    refine ord_call (f := 41) (args := #[.slice A2 n2 k2, .slice A1 n1 k1]) (w1 := w5.drew) (i := 4) (fuel := 5) (by simp; rfl) (by kernel_rfl) (by rfl) ?_ ?_
    · go_simp
      all_goals with_reducible rfl
    refine (subNat_f A2 A1 n2 n1 k2 k1 d2 d1 _ (by exact D2) (by exact D1) (by omega) (sub_len D2 D1 N1 (by rw [E1h.out, E2h.out]; exact HLE.out)) (by rw [E1h.out, E2h.out]; exact HLE.out)).mono ?_
    rintro e x1 ⟨A3, n3, k3, d3, ⟨D3, N3, E3, _⟩, rfl, hb⟩
    have V1 := VD.below hb
    have BY := (show Blk w5.drew (w.heap.size + 1 + 1) 25 #[.bool false, .int .u64 0, .int .u64 0, .int .i64 0] from BZ).below hb BZ.lt
    have E3h := Lib.hid (show dv d3 = N - M by rw [E3, E1h.out, E2h.out])
    clear hb VD BZ E3 D1 D2
    refine ⟨_, rfl, V1, ?_⟩
    simp only [Act.put, List.setIfInBounds_toArray, List.set_cons_zero, List.set_cons_succ]
    refine ord_call (f := 38) (args := #[.bool n', .slice A3 n3 k3, .int .i64 s]) (w1 := x1) (i := 6) (fuel := 4) (by simp; rfl) (by kernel_rfl) (by rfl) ?_ ?_
    · go_simp
      all_goals with_reducible rfl
    refine (make_all n' A3 n3 k3 d3 (N - M) s _ D3 N3 E3h.out).mono ?_
    rintro e x2 ⟨_, ⟨m4, c4, d4, q4, e4, D4, rfl⟩, rfl, hb⟩
    have V2 := V1.below hb
    have BX := BY.below hb BY.lt
    have HD4 := Lib.hid D4
    clear hb V1 BY D4 D3
    refine ⟨_, rfl, V2, ?_⟩
    simp only [Act.put, List.setIfInBounds_toArray, List.set_cons_zero, List.set_cons_succ]
    refine ord_take (v := ?_) (i := 7) (fuel := 3) (by simp; rfl) (by kernel_rfl) (by kernel_rfl) (by kernel_rfl) (Or.inl ⟨by rfl, fun w' hSw => ?_⟩) V2 ?_
    rotate_left
    · go_simp
      all_goals with_reducible rfl
    simp only [Act.put, List.setIfInBounds_toArray, List.set_cons_zero, List.set_cons_succ]
    refine ord_take (v := ?_) (i := 8) (fuel := 2) (by simp; rfl) (by kernel_rfl) (by kernel_rfl) (by kernel_rfl) (Or.inl ⟨by rfl, fun w' hSw => ?_⟩) V2 ?_
    rotate_left
    · go_simp
      all_goals with_reducible rfl
    simp only [Act.put, List.setIfInBounds_toArray, List.set_cons_zero, List.set_cons_succ]
    obtain ⟨lz, ⟨z0, z1, z2, z3⟩, y0, y1, y2, y3⟩ := blk_cells BX
    have VS1 := HB.set4 (a' := .bool m4) (b' := .int .u64 c4) (c' := .int .u64 d4) (d' := .int .i64 q4) V2 BX hlg hne
    have VS := HB.sub (bs' := [(w.heap.size + 1, 25, #[.bool n', .int .u64 a', .int .u64 b', .int .i64 s']), (w.heap.size, 25, #[.bool n, .int .u64 a, .int .u64 b, .int .i64 s])]) VS1 (by simp)
    refine ord_skip (w' := ((((x2.setCell ⟨w.heap.size + 1 + 1, 0, none⟩ (.bool m4)).setCell ⟨w.heap.size + 1 + 1, 1, none⟩ (.int .u64 c4)).setCell ⟨w.heap.size + 1 + 1, 2, none⟩ (.int .u64 d4)).setCell ⟨w.heap.size + 1 + 1, 3, none⟩ (.int .i64 q4))) (i := 9) (fuel := 1) (by simp; rfl) (by kernel_rfl) (by rfl) rfl ?_ VS ?_
    · go_simp
      all_goals with_reducible rfl
    refine ord_take (v := ?_) (i := 10) (fuel := 0) (by simp; rfl) (by kernel_rfl) (by kernel_rfl) (by kernel_rfl) (Or.inl ⟨by rfl, fun w' hSw => ?_⟩) VS ?_
    rotate_left
    · go_simp
      all_goals with_reducible rfl
    simp only [Act.put, List.setIfInBounds_toArray, List.set_cons_zero, List.set_cons_succ]
    obtain ⟨lt, t0, t1, t2, t3⟩ := HB.dec (t := 25) (g := w.heap.size + 1 + 1) (a := .bool m4) (b := .int .u64 c4) (c := .int .u64 d4) (d := .int .i64 q4) VS1 (by simp)
    have HB1 := Lib.hid VS.1
    clear VS VS1 V2 BX lz z0 z1 z2 z3 y0 y1 y2 y3
    refine ord_done (by kernel_rfl) ?_ _
    go_wp2
    exact bodyPost_ret (v := .tuple #[.agg #[.bool m4, .int .u64 c4, .int .u64 d4, .int .i64 q4], .int .i64 e4]) (by simp [results, Tryz.results10, go_sem, t0, t1, t2, t3]) rfl ⟨_, ⟨_, _, _, _, _, HD4.out, rfl⟩, rfl, HB1.out⟩
end Go.Proofs.YtlhceelkefgjhaaGreatDoor

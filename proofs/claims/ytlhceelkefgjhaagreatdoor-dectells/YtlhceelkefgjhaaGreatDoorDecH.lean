/- Package dec at any decimals: bothAt, difference, Add. -/
import Derived.Test.YtlhceelkefgjhaaGreatDoorDecG
namespace Go.Proofs.YtlhceelkefgjhaaGreatDoor
open Go.RowKit
/-- An answer: a decimal and an error. -/
def Ans (V v : Value) : Prop := ∃ (m : Bool) (c d q e : Int), V = .tuple #[.agg #[.bool m, .int .u64 c, .int .u64 d, .int .i64 q], .int .i64 e] ∧ v = .tuple #[.agg #[.bool m, .int .u64 c, .int .u64 d, .int .i64 q], .int .i64 e]
theorem err_form (e : Int) : errV e = .tuple #[.agg #[.bool false, .int .u64 0, .int .u64 0, .int .i64 0], .int .i64 e] := by
  unfold errV decV
  rfl
theorem chk_form (n : Bool) (N : Nat) (s : Int) : ∃ (m : Bool) (c d q e : Int), chkV n N s = .tuple #[.agg #[.bool m, .int .u64 c, .int .u64 d, .int .i64 q], .int .i64 e] := by
  unfold chkV
  split
  · exact ⟨_, _, _, _, _, rfl⟩
  · exact ⟨_, _, _, _, _, err_form 3⟩
theorem checked_x (n : Bool) (c0 c1 s : Int) (w : World) (h0 : U64 c0) (h1 : U64 c1) : Calls Tryz.prog 33 #[.bool n, .agg #[.int .u64 c0, .int .u64 c1], .int .i64 s] w (Ret w (Ans (chkV n (v2 c0 c1) s))) := by
  refine (checked_c n c0 c1 s w h0 h1).mono ?_
  rintro e w' ⟨v, hv, he, hb⟩
  obtain ⟨m, c, d, q, er, hf⟩ := chk_form n (v2 c0 c1) s
  exact ⟨v, ⟨m, c, d, q, er, hf, hv.trans hf⟩, he, hb⟩
theorem ans_err (e : Int) : Ans (errV e) (.tuple #[.agg #[.bool false, .int .u64 0, .int .u64 0, .int .i64 0], .int .i64 e]) := ⟨_, _, _, _, _, err_form e, rfl⟩
theorem ans_of {V V' : Value} {w : World} {f : FuncId} {args : Array Value} (h : Calls Tryz.prog f args w (Ret w (Ans V))) (hV : V = V') : Calls Tryz.prog f args w (Ret w (Ans V')) := by
  subst hV
  exact h
/-- A number with its sign as an answer: over where it has more than thirty digits. -/
def chkZ (z s : Int) : Value := if z.natAbs < 1000000000000000000000000000000 then okV z s else errV 3
theorem chk_z (n : Bool) (N : Nat) (s : Int) (h0 : 0 ≤ s) (h9 : s ≤ 9) : chkV n N s = chkZ (zOf n N) s := by
  unfold chkV chkZ
  rw [zOf_abs]
  by_cases h : N < 1000000000000000000000000000000
  · rw [if_pos ⟨h, h0, h9⟩, if_pos h]
  · rw [if_neg (fun x => h x.1), if_neg h]
theorem chk_over {z s : Int} (h : 1000000000000000000000000000000 ≤ z.natAbs) : chkZ z s = errV 3 := by
  unfold chkZ
  rw [if_neg (Nat.not_lt.2 h)]
/-- Its size at a greater Scale. -/
def upW (a b s t : Int) : Nat := v2 a b * 10 ^ (t - s).toNat
def Sz (M : Nat) (x y : Int) (p : Bool) : Prop := U64 x ∧ U64 y ∧ ((M < 340282366920938463463374607431768211456 ∧ p = true ∧ v2 x y = M) ∨ (340282366920938463463374607431768211456 ≤ M ∧ p = false ∧ x = 0 ∧ y = 0))
theorem sz_yes {M : Nat} {x y : Int} {p : Bool} (h : Sz M x y p) (hM : M < 340282366920938463463374607431768211456) : p = true ∧ U64 x ∧ U64 y ∧ v2 x y = M := by
  obtain ⟨hx, hy, ⟨_, hp, e⟩ | ⟨hl, _⟩⟩ := h
  · exact ⟨hp, hx, hy, e⟩
  · exact absurd hM (Nat.not_lt.2 hl)
theorem sz_no {M : Nat} {x y : Int} {p : Bool} (h : Sz M x y p) (hM : 340282366920938463463374607431768211456 ≤ M) : p = false := by
  obtain ⟨_, _, ⟨hl, _⟩ | ⟨_, hp, _⟩⟩ := h
  · exact absurd hl (Nat.not_lt.2 hM)
  · exact hp
def IsSz2 (M N : Nat) (v : Value) : Prop := ∃ (x y : Int) (p : Bool) (x' y' : Int) (p' : Bool), Sz M x y p ∧ Sz N x' y' p' ∧ v = .tuple #[.agg #[.int .u64 x, .int .u64 y], .agg #[.int .u64 x', .int .u64 y'], .bool (p && p')]

set_option maxRecDepth 100000 in
set_option maxHeartbeats 1600000 in
theorem bothAt_all (n : Bool) (a b s : Int) (n' : Bool) (a' b' s' : Int) (t : Int) (w : World) (ha : U64 a) (hb1 : U64 b) (ha' : U64 a') (hb1' : U64 b') (h0 : 0 ≤ s) (h0' : 0 ≤ s') (hst : s ≤ t) (hst' : s' ≤ t) (h9 : t ≤ 9) :
    Calls Tryz.prog 30 #[.agg #[.bool n, .int .u64 a, .int .u64 b, .int .i64 s], .agg #[.bool n', .int .u64 a', .int .u64 b', .int .i64 s'], .int .i64 t] w (Ret w (IsSz2 (upW a b s t) (upW a' b' s' t))) := by
  have W : HB w [(w.heap.size + 1 + 1 + 1, 23, #[.int .u64 0, .int .u64 0]), (w.heap.size + 1 + 1, 23, #[.int .u64 0, .int .u64 0]), (w.heap.size + 1, 25, #[.bool n', .int .u64 a', .int .u64 b', .int .i64 s']), (w.heap.size, 25, #[.bool n, .int .u64 a, .int .u64 b, .int .i64 s])] ((((w.alloc (.cells #[.bool n, .int .u64 a, .int .u64 b, .int .i64 s] 25)).alloc (.cells #[.bool n', .int .u64 a', .int .u64 b', .int .i64 s'] 25)).alloc (.cells #[.int .u64 0, .int .u64 0] 23)).alloc (.cells #[.int .u64 0, .int .u64 0] 23)) := by
    have h := ((((HB.start (Below.refl _ w)).push #[.bool n, .int .u64 a, .int .u64 b, .int .i64 s] 25).push #[.bool n', .int .u64 a', .int .u64 b', .int .i64 s'] 25).push #[.int .u64 0, .int .u64 0] 23).push #[.int .u64 0, .int .u64 0] 23
    simpa using h
  have hle : w.heap.size ≤ w.heap.size + 1 + 1 := by omega
  have hle' : w.heap.size ≤ w.heap.size + 1 + 1 + 1 := by omega
  go_enter Tryz.func30, Tryz.ntmps30
  go_wp2_with fail
  refine (sizeAt_all n a b s t _ ha hb1 h0 hst h9 (upW a b s t) rfl).mono ?_
  rintro e w1 ⟨_, ⟨x, y, p, S1, rfl⟩, rfl, hb⟩
  replace W := W.below hb
  clear hb
  have SX := Lib.hid (show Sz (upW a b s t) x y p from S1)
  clear S1
  obtain ⟨lq, q0, q1, q2, q3⟩ := HB.dec (t := 25) (g := w.heap.size + 1) (a := .bool n') (b := .int .u64 a') (c := .int .u64 b') (d := .int .i64 s') W (by simp)
  obtain ⟨lp, p0, p1⟩ := HB.two (t := 23) (g := w.heap.size + 1 + 1) (a := .int .u64 0) (b := .int .u64 0) W (by simp)
  have Bz := HB.blk (g := w.heap.size + 1 + 1) (t := 23) (cs := #[.int .u64 0, .int .u64 0]) W (by simp)
  have fz0 := Bz.frozen 0
  have fz1 := Bz.frozen 1
  clear Bz
  replace W := HB.put2 (g := w.heap.size + 1 + 1) (t := 23) (a' := .int .u64 x) (b' := .int .u64 y) (bs' := [(w.heap.size + 1 + 1 + 1, 23, #[.int .u64 0, .int .u64 0]), (w.heap.size + 1, 25, #[.bool n', .int .u64 a', .int .u64 b', .int .i64 s'])]) W (a := .int .u64 0) (b := .int .u64 0) (by simp) hle (by simp)
  go_wp2_with fail
  refine (sizeAt_all n' a' b' s' t _ ha' hb1' h0' hst' h9 (upW a' b' s' t) rfl).mono ?_
  rintro e w2 ⟨_, ⟨x', y', p', S2, rfl⟩, rfl, hb⟩
  replace W := W.below hb
  clear hb lq q0 q1 q2 q3 lp p0 p1 fz0 fz1
  have SX' := Lib.hid (show Sz (upW a' b' s' t) x' y' p' from S2)
  clear S2
  obtain ⟨lq, q0, q1⟩ := HB.two (t := 23) (g := w.heap.size + 1 + 1) (a := .int .u64 x) (b := .int .u64 y) W (by simp)
  obtain ⟨lp, p0, p1⟩ := HB.two (t := 23) (g := w.heap.size + 1 + 1 + 1) (a := .int .u64 0) (b := .int .u64 0) W (by simp)
  have Bz := HB.blk (g := w.heap.size + 1 + 1) (t := 23) (cs := #[.int .u64 x, .int .u64 y]) W (by simp)
  have fz0 := Bz.frozen 0
  have fz1 := Bz.frozen 1
  clear Bz
  have By := HB.blk (g := w.heap.size + 1 + 1 + 1) (t := 23) (cs := #[.int .u64 0, .int .u64 0]) W (by simp)
  have fy0 := By.frozen 0
  have fy1 := By.frozen 1
  clear By
  have HB2 := HB.put2 (g := w.heap.size + 1 + 1 + 1) (t := 23) (a := .int .u64 0) (b := .int .u64 0) (a' := .int .u64 x') (b' := .int .u64 y') (bs' := [(w.heap.size + 1 + 1, 23, #[.int .u64 x, .int .u64 y])]) W (by simp) hle' (by simp)
  have HB3 := HB.put2 (g := w.heap.size + 1 + 1) (t := 23) (a := .int .u64 x) (b := .int .u64 y) (a' := .int .u64 x) (b' := .int .u64 y) (bs' := [(w.heap.size + 1 + 1 + 1, 23, #[.int .u64 x', .int .u64 y'])]) HB2 (by simp) hle (by simp)
  have HB4 := HB.put2 (g := w.heap.size + 1 + 1 + 1) (t := 23) (a := .int .u64 x') (b := .int .u64 y') (a' := .int .u64 x') (b' := .int .u64 y') (bs' := [(w.heap.size + 1 + 1, 23, #[.int .u64 x, .int .u64 y])]) HB3 (by simp) hle' (by simp)
  obtain ⟨lr, r0, r1⟩ := HB.two (t := 23) (g := w.heap.size + 1 + 1) (a := .int .u64 x) (b := .int .u64 y) HB4 (by simp)
  obtain ⟨ls, s0, s1⟩ := HB.two (t := 23) (g := w.heap.size + 1 + 1 + 1) (a := .int .u64 x') (b := .int .u64 y') HB4 (by simp)
  have HB1 := Lib.hid HB4.1
  have R0 := Lib.hid r0
  have R1 := Lib.hid r1
  have S0 := Lib.hid s0
  have S1 := Lib.hid s1
  clear W HB2 HB3 HB4 r0 r1 s0 s1 lr ls
  cases p
  · cases p'
    · go_wp2
      go_region
      all_goals
        go_wp2
        refine bodyPost_ret (v := .tuple #[.agg #[.int .u64 x, .int .u64 y], .agg #[.int .u64 x', .int .u64 y'], .bool false]) (by simp [results, Tryz.results30, go_sem, R0.out, R1.out, S0.out, S1.out]) rfl ⟨_, ⟨_, _, _, _, _, _, SX.out, SX'.out, rfl⟩, rfl, ?_⟩
        exact HB1.out.drew
    · go_wp2
      go_region
      all_goals
        go_wp2
        refine bodyPost_ret (v := .tuple #[.agg #[.int .u64 x, .int .u64 y], .agg #[.int .u64 x', .int .u64 y'], .bool false]) (by simp [results, Tryz.results30, go_sem, R0.out, R1.out, S0.out, S1.out]) rfl ⟨_, ⟨_, _, _, _, _, _, SX.out, SX'.out, rfl⟩, rfl, ?_⟩
        exact HB1.out.drew
  · cases p'
    · go_wp2
      go_region
      all_goals
        go_wp2
        refine bodyPost_ret (v := .tuple #[.agg #[.int .u64 x, .int .u64 y], .agg #[.int .u64 x', .int .u64 y'], .bool false]) (by simp [results, Tryz.results30, go_sem, R0.out, R1.out, S0.out, S1.out]) rfl ⟨_, ⟨_, _, _, _, _, _, SX.out, SX'.out, rfl⟩, rfl, ?_⟩
        exact HB1.out.drew
    · go_wp2
      go_region
      all_goals
        go_wp2
        refine bodyPost_ret (v := .tuple #[.agg #[.int .u64 x, .int .u64 y], .agg #[.int .u64 x', .int .u64 y'], .bool true]) (by simp [results, Tryz.results30, go_sem, R0.out, R1.out, S0.out, S1.out]) rfl ⟨_, ⟨_, _, _, _, _, _, SX.out, SX'.out, rfl⟩, rfl, ?_⟩
        exact HB1.out.drew

set_option maxRecDepth 100000 in
set_option maxHeartbeats 1600000 in
theorem differ_ge (n : Bool) (x y x' y' t : Int) (w : World) (hx : U64 x) (hy : U64 y) (hx' : U64 x') (hy' : U64 y') (hle : v2 x' y' ≤ v2 x y) :
    Calls Tryz.prog 31 #[.bool n, .agg #[.int .u64 x, .int .u64 y], .agg #[.int .u64 x', .int .u64 y'], .int .i64 t] w (Ret w (Ans (chkV n (v2 x y - v2 x' y') t))) := by
  have W : HB w [(w.heap.size + 1 + 1, 25, #[.bool false, .int .u64 0, .int .u64 0, .int .i64 0]), (w.heap.size + 1, 23, #[.int .u64 x', .int .u64 y']), (w.heap.size, 23, #[.int .u64 x, .int .u64 y])] (((w.alloc (.cells #[.int .u64 x, .int .u64 y] 23)).alloc (.cells #[.int .u64 x', .int .u64 y'] 23)).alloc (.cells #[.bool false, .int .u64 0, .int .u64 0, .int .i64 0] 25)) := by
    have h := (((HB.start (Below.refl _ w)).push #[.int .u64 x, .int .u64 y] 23).push #[.int .u64 x', .int .u64 y'] 23).push #[.bool false, .int .u64 0, .int .u64 0, .int .i64 0] 25
    simpa using h
  have hlg : w.heap.size ≤ w.heap.size + 1 + 1 := by omega
  have HC := Lib.hid hle
  clear hle
  go_enter Tryz.func31, Tryz.ntmps31
  go_wp2_with fail
  refine (sub_c x y x' y' _ hx hy hx' hy').mono ?_
  rintro e w1 ⟨_, ⟨s0, s1, p, HS, rfl⟩, rfl, hb⟩
  replace W := W.below hb
  clear hb
  obtain ⟨rfl, hs0, hs1, es⟩ := sub_fin HS HC.out
  have ES := Lib.hid es
  clear es HS
  replace W := W.push #[.int .u64 s0, .int .u64 s1] 23
  go_wp2_with fail
  refine (checked_x n s0 s1 t _ hs0 hs1).mono ?_
  rintro e w2 ⟨_, ⟨m, a, b, q, er, HD, rfl⟩, rfl, hb⟩
  replace W := W.below hb
  clear hb
  rw [ES.out] at HD
  obtain ⟨lq, q0, q1, q2, q3⟩ := HB.dec (t := 25) (g := w.heap.size + 1 + 1) (a := .bool false) (b := .int .u64 0) (c := .int .u64 0) (d := .int .i64 0) W (by simp)
  have Bz := HB.blk (g := w.heap.size + 1 + 1) (t := 25) (cs := #[.bool false, .int .u64 0, .int .u64 0, .int .i64 0]) W (by simp)
  have fz0 := Bz.frozen 0
  have fz1 := Bz.frozen 1
  have fz2 := Bz.frozen 2
  have fz3 := Bz.frozen 3
  clear Bz
  have HB1 := Lib.hid W.1
  clear W
  have HDh := Lib.hid HD
  clear HD
  go_wp2
  exact bodyPost_ret (v := .tuple #[.agg #[.bool m, .int .u64 a, .int .u64 b, .int .i64 q], .int .i64 er]) (by simp [results, Tryz.results31, go_sem, q0, q1, q2, q3]) rfl ⟨_, ⟨_, _, _, _, _, HDh.out, rfl⟩, rfl, bel4 HB1.out hlg⟩

set_option maxRecDepth 100000 in
set_option maxHeartbeats 1600000 in
theorem differ_lt (n : Bool) (x y x' y' t : Int) (w : World) (hx : U64 x) (hy : U64 y) (hx' : U64 x') (hy' : U64 y') (hlt : v2 x y < v2 x' y') :
    Calls Tryz.prog 31 #[.bool n, .agg #[.int .u64 x, .int .u64 y], .agg #[.int .u64 x', .int .u64 y'], .int .i64 t] w (Ret w (Ans (chkV (!n) (v2 x' y' - v2 x y) t))) := by
  have W : HB w [(w.heap.size + 1 + 1, 25, #[.bool false, .int .u64 0, .int .u64 0, .int .i64 0]), (w.heap.size + 1, 23, #[.int .u64 x', .int .u64 y']), (w.heap.size, 23, #[.int .u64 x, .int .u64 y])] (((w.alloc (.cells #[.int .u64 x, .int .u64 y] 23)).alloc (.cells #[.int .u64 x', .int .u64 y'] 23)).alloc (.cells #[.bool false, .int .u64 0, .int .u64 0, .int .i64 0] 25)) := by
    have h := (((HB.start (Below.refl _ w)).push #[.int .u64 x, .int .u64 y] 23).push #[.int .u64 x', .int .u64 y'] 23).push #[.bool false, .int .u64 0, .int .u64 0, .int .i64 0] 25
    simpa using h
  have hlg : w.heap.size ≤ w.heap.size + 1 + 1 := by omega
  have HC := Lib.hid hlt
  clear hlt
  go_enter Tryz.func31, Tryz.ntmps31
  go_wp2_with fail
  refine (sub_c x y x' y' _ hx hy hx' hy').mono ?_
  rintro e w1 ⟨_, ⟨s0, s1, p, HS, rfl⟩, rfl, hb⟩
  replace W := W.below hb
  clear hb
  obtain rfl := sub_no HS HC.out
  have HW1 := Lib.hid (show w.heap.size + 1 + 1 < w1.heap.size ∧ w.heap.size ≤ w1.heap.size from ⟨(HB.dec (t := 25) (g := w.heap.size + 1 + 1) (a := .bool false) (b := .int .u64 0) (c := .int .u64 0) (d := .int .i64 0) W (by simp)).1, W.1.size⟩)
  clear HS
  obtain ⟨lq, q0, q1⟩ := HB.two (t := 23) (g := w.heap.size) (a := .int .u64 x) (b := .int .u64 y) W (by simp)
  obtain ⟨lp, p0, p1⟩ := HB.two (t := 23) (g := w.heap.size + 1) (a := .int .u64 x') (b := .int .u64 y') W (by simp)
  replace W := W.push #[.int .u64 s0, .int .u64 s1] 23
  go_wp2_with fail
  refine (sub_c x' y' x y _ hx' hy' hx hy).mono ?_
  rintro e w2 ⟨_, ⟨u0, u1, p, HS, rfl⟩, rfl, hb⟩
  replace W := W.below hb
  clear hb lq q0 q1 lp p0 p1
  obtain ⟨rfl, hs0, hs1, es⟩ := sub_fin HS (Nat.le_of_lt HC.out)
  have ES := Lib.hid es
  clear es HS
  obtain ⟨lq, q0, q1⟩ := HB.two (t := 23) (g := w1.heap.size) (a := .int .u64 s0) (b := .int .u64 s1) W (by simp)
  have Bz := HB.blk (g := w1.heap.size) (t := 23) (cs := #[.int .u64 s0, .int .u64 s1]) W (by simp)
  have fz0 := Bz.frozen 0
  have fz1 := Bz.frozen 1
  clear Bz
  have hw1 : w.heap.size + 1 + 1 < w1.heap.size ∧ w.heap.size ≤ w1.heap.size := HW1.out
  replace W := HB.put2 (g := w1.heap.size) (t := 23) (a := .int .u64 s0) (b := .int .u64 s1) (a' := .int .u64 u0) (b' := .int .u64 u1) (bs' := [(w.heap.size + 1 + 1, 25, #[.bool false, .int .u64 0, .int .u64 0, .int .i64 0])]) W (by simp) hw1.2 (by simp; omega)
  go_wp2_with fail
  refine (checked_x (!n) u0 u1 t _ hs0 hs1).mono ?_
  rintro e w3 ⟨_, ⟨m, a, b, q, er, HD, rfl⟩, rfl, hb⟩
  replace W := W.below hb
  clear hb lq q0 q1 fz0 fz1
  rw [ES.out] at HD
  obtain ⟨lq, q0, q1, q2, q3⟩ := HB.dec (t := 25) (g := w.heap.size + 1 + 1) (a := .bool false) (b := .int .u64 0) (c := .int .u64 0) (d := .int .i64 0) W (by simp)
  have Bz := HB.blk (g := w.heap.size + 1 + 1) (t := 25) (cs := #[.bool false, .int .u64 0, .int .u64 0, .int .i64 0]) W (by simp)
  have fz0 := Bz.frozen 0
  have fz1 := Bz.frozen 1
  have fz2 := Bz.frozen 2
  have fz3 := Bz.frozen 3
  clear Bz
  have HB1 := Lib.hid W.1
  clear W
  have HDh := Lib.hid HD
  clear HD
  go_wp2
  exact bodyPost_ret (v := .tuple #[.agg #[.bool m, .int .u64 a, .int .u64 b, .int .i64 q], .int .i64 er]) (by simp [results, Tryz.results31, go_sem, q0, q1, q2, q3]) rfl ⟨_, ⟨_, _, _, _, _, HDh.out, rfl⟩, rfl, bel4 HB1.out hlg⟩

theorem sumR_yes {x y x' y' s0 s1 : Int} {p : Bool} (h : AddR x y x' y' s0 s1 p) (hl : v2 x y + v2 x' y' < 340282366920938463463374607431768211456) : p = true ∧ U64 s0 ∧ U64 s1 ∧ v2 s0 s1 = v2 x y + v2 x' y' := by
  obtain ⟨a, b, ⟨_, hp, e⟩ | ⟨hl2, _⟩⟩ := h
  · exact ⟨hp, a, b, e⟩
  · omega
theorem sumR_no {x y x' y' s0 s1 : Int} {p : Bool} (h : AddR x y x' y' s0 s1 p) (hl : 340282366920938463463374607431768211456 ≤ v2 x y + v2 x' y') : p = false := by
  obtain ⟨a, b, ⟨hl2, _⟩ | ⟨_, hp, _⟩⟩ := h
  · omega
  · exact hp

set_option maxRecDepth 100000 in
set_option maxHeartbeats 1600000 in
theorem addA_same (n : Bool) (a b s a' b' s' t : Int) (w : World) (ha : U64 a) (hb1 : U64 b) (ha' : U64 a') (hb1' : U64 b') (hr : RightD n a b s) (hr' : RightD n a' b' s') (ht : (s < s' ∧ s' = t) ∨ (s' ≤ s ∧ s = t)) (hc : upW a b s t < 340282366920938463463374607431768211456 ∧ upW a' b' s' t < 340282366920938463463374607431768211456 ∧ upW a b s t + upW a' b' s' t < 340282366920938463463374607431768211456) :
    Calls Tryz.prog 6 #[.agg #[.bool n, .int .u64 a, .int .u64 b, .int .i64 s], .agg #[.bool n, .int .u64 a', .int .u64 b', .int .i64 s']] w (Ret w (Ans (chkV n (upW a b s t + upW a' b' s' t) t))) := by
  have h0 : 0 ≤ s := hr.2.1
  have h0' : 0 ≤ s' := hr'.2.1
  have h9 : s ≤ 9 := hr.2.2.1
  have h9' : s' ≤ 9 := hr'.2.2.1
  have ht9 : t ≤ 9 := by omega
  have hst : s ≤ t := by omega
  have hst' : s' ≤ t := by omega
  have HR := Lib.hid (decide_eq_true hr)
  have HR' := Lib.hid (decide_eq_true hr')
  have HC := Lib.hid hc
  clear hr hr' hc
  have hlg : w.heap.size ≤ w.heap.size + 1 + 1 := by omega
  rcases ht with ⟨hss, rfl⟩ | ⟨hss, rfl⟩
  · cases n
    · have W : HB w [(w.heap.size + 1 + 1, 25, #[.bool false, .int .u64 0, .int .u64 0, .int .i64 0]), (w.heap.size + 1, 25, #[.bool false, .int .u64 a', .int .u64 b', .int .i64 s']), (w.heap.size, 25, #[.bool false, .int .u64 a, .int .u64 b, .int .i64 s])] (((w.alloc (.cells #[.bool false, .int .u64 a, .int .u64 b, .int .i64 s] 25)).alloc (.cells #[.bool false, .int .u64 a', .int .u64 b', .int .i64 s'] 25)).alloc (.cells #[.bool false, .int .u64 0, .int .u64 0, .int .i64 0] 25)) := by
        have h := (((HB.start (Below.refl _ w)).push #[.bool false, .int .u64 a, .int .u64 b, .int .i64 s] 25).push #[.bool false, .int .u64 a', .int .u64 b', .int .i64 s'] 25).push #[.bool false, .int .u64 0, .int .u64 0, .int .i64 0] 25
        simpa using h
      go_enter Tryz.func6, Tryz.ntmps6
      have RC := right_c false a b s (((w.alloc (.cells #[.bool false, .int .u64 a, .int .u64 b, .int .i64 s] 25)).alloc (.cells #[.bool false, .int .u64 a', .int .u64 b', .int .i64 s'] 25)).alloc (.cells #[.bool false, .int .u64 0, .int .u64 0, .int .i64 0] 25)) ha hb1
      rw [HR.out] at RC
      have RH := Lib.hid RC
      clear RC
      go_wp2_with fail
      refine (RH.out).mono ?_
      rintro e w1 ⟨_, rfl, rfl, hb⟩
      replace W := W.below hb
      clear hb RH
      obtain ⟨lq, q0, q1, q2, q3⟩ := HB.dec (t := 25) (g := w.heap.size + 1) (a := .bool false) (b := .int .u64 a') (c := .int .u64 b') (d := .int .i64 s') W (by simp)
      have RC := right_c false a' b' s' w1 ha' hb1'
      rw [HR'.out] at RC
      have RH := Lib.hid RC
      clear RC
      go_wp2_with fail
      refine (RH.out).mono ?_
      rintro e w2 ⟨_, rfl, rfl, hb⟩
      replace W := W.below hb
      clear hb lq q0 q1 q2 q3 RH
      obtain ⟨lp, p0, p1, p2, p3⟩ := HB.dec (t := 25) (g := w.heap.size) (a := .bool false) (b := .int .u64 a) (c := .int .u64 b) (d := .int .i64 s) W (by simp)
      obtain ⟨lq, q0, q1, q2, q3⟩ := HB.dec (t := 25) (g := w.heap.size + 1) (a := .bool false) (b := .int .u64 a') (c := .int .u64 b') (d := .int .i64 s') W (by simp)
      go_wp2_with fail
      rw [show max s s' = s' by omega]
      refine (bothAt_all false a b s false a' b' s' s' _ ha hb1 ha' hb1' h0 h0' hst hst' ht9).mono ?_
      rintro e w3 ⟨_, ⟨x, y, p, x', y', p', SX, SX', rfl⟩, rfl, hb⟩
      replace W := W.below hb
      clear hb lq q0 q1 q2 q3 lp p0 p1 p2 p3
      obtain ⟨rfl, hx, hy, ex⟩ := sz_yes SX HC.out.1
      obtain ⟨rfl, hx', hy', ex'⟩ := sz_yes SX' HC.out.2.1
      have EX := Lib.hid ex
      have EX' := Lib.hid ex'
      clear ex ex' SX SX'
      obtain ⟨lp, p0, p1, p2, p3⟩ := HB.dec (t := 25) (g := w.heap.size) (a := .bool false) (b := .int .u64 a) (c := .int .u64 b) (d := .int .i64 s) W (by simp)
      obtain ⟨lq, q0, q1, q2, q3⟩ := HB.dec (t := 25) (g := w.heap.size + 1) (a := .bool false) (b := .int .u64 a') (c := .int .u64 b') (d := .int .i64 s') W (by simp)
      replace W := (W.push #[.int .u64 x, .int .u64 y] 23).push #[.int .u64 x', .int .u64 y'] 23
      simp only [World.size_alloc] at W
      go_wp2_with fail
      refine (add_c x y x' y' _ hx hy hx' hy').mono ?_
      rintro e w4 ⟨_, ⟨s0, s1, p, HS, rfl⟩, rfl, hb⟩
      replace W := W.below hb
      clear hb lq q0 q1 q2 q3 lp p0 p1 p2 p3
      obtain ⟨rfl, hs0, hs1, es⟩ := sumR_yes HS (by rw [EX.out, EX'.out]; exact HC.out.2.2)
      rw [EX.out, EX'.out] at es
      have ES := Lib.hid es
      clear es HS
      obtain ⟨lp, p0, p1, p2, p3⟩ := HB.dec (t := 25) (g := w.heap.size) (a := .bool false) (b := .int .u64 a) (c := .int .u64 b) (d := .int .i64 s) W (by simp)
      replace W := W.push #[.int .u64 s0, .int .u64 s1] 23
      go_wp2_with fail
      refine (checked_x false s0 s1 s' _ hs0 hs1).mono ?_
      rintro e w5 ⟨_, ⟨m, c, d, q, er, HD, rfl⟩, rfl, hb⟩
      replace W := W.below hb
      clear hb lp p0 p1 p2 p3
      rw [ES.out] at HD
      obtain ⟨lq, q0, q1, q2, q3⟩ := HB.dec (t := 25) (g := w.heap.size + 1 + 1) (a := .bool false) (b := .int .u64 0) (c := .int .u64 0) (d := .int .i64 0) W (by simp)
      have Bz := HB.blk (g := w.heap.size + 1 + 1) (t := 25) (cs := #[.bool false, .int .u64 0, .int .u64 0, .int .i64 0]) W (by simp)
      have fz0 := Bz.frozen 0
      have fz1 := Bz.frozen 1
      have fz2 := Bz.frozen 2
      have fz3 := Bz.frozen 3
      clear Bz
      have HB1 := Lib.hid W.1
      clear W
      have HDh := Lib.hid HD
      clear HD
      go_wp2
      exact bodyPost_ret (v := .tuple #[.agg #[.bool m, .int .u64 c, .int .u64 d, .int .i64 q], .int .i64 er]) (by simp [results, Tryz.results6, go_sem, q0, q1, q2, q3]) rfl ⟨_, ⟨_, _, _, _, _, HDh.out, rfl⟩, rfl, bel4 HB1.out hlg⟩
    · have W : HB w [(w.heap.size + 1 + 1, 25, #[.bool false, .int .u64 0, .int .u64 0, .int .i64 0]), (w.heap.size + 1, 25, #[.bool true, .int .u64 a', .int .u64 b', .int .i64 s']), (w.heap.size, 25, #[.bool true, .int .u64 a, .int .u64 b, .int .i64 s])] (((w.alloc (.cells #[.bool true, .int .u64 a, .int .u64 b, .int .i64 s] 25)).alloc (.cells #[.bool true, .int .u64 a', .int .u64 b', .int .i64 s'] 25)).alloc (.cells #[.bool false, .int .u64 0, .int .u64 0, .int .i64 0] 25)) := by
        have h := (((HB.start (Below.refl _ w)).push #[.bool true, .int .u64 a, .int .u64 b, .int .i64 s] 25).push #[.bool true, .int .u64 a', .int .u64 b', .int .i64 s'] 25).push #[.bool false, .int .u64 0, .int .u64 0, .int .i64 0] 25
        simpa using h
      go_enter Tryz.func6, Tryz.ntmps6
      have RC := right_c true a b s (((w.alloc (.cells #[.bool true, .int .u64 a, .int .u64 b, .int .i64 s] 25)).alloc (.cells #[.bool true, .int .u64 a', .int .u64 b', .int .i64 s'] 25)).alloc (.cells #[.bool false, .int .u64 0, .int .u64 0, .int .i64 0] 25)) ha hb1
      rw [HR.out] at RC
      have RH := Lib.hid RC
      clear RC
      go_wp2_with fail
      refine (RH.out).mono ?_
      rintro e w1 ⟨_, rfl, rfl, hb⟩
      replace W := W.below hb
      clear hb RH
      obtain ⟨lq, q0, q1, q2, q3⟩ := HB.dec (t := 25) (g := w.heap.size + 1) (a := .bool true) (b := .int .u64 a') (c := .int .u64 b') (d := .int .i64 s') W (by simp)
      have RC := right_c true a' b' s' w1 ha' hb1'
      rw [HR'.out] at RC
      have RH := Lib.hid RC
      clear RC
      go_wp2_with fail
      refine (RH.out).mono ?_
      rintro e w2 ⟨_, rfl, rfl, hb⟩
      replace W := W.below hb
      clear hb lq q0 q1 q2 q3 RH
      obtain ⟨lp, p0, p1, p2, p3⟩ := HB.dec (t := 25) (g := w.heap.size) (a := .bool true) (b := .int .u64 a) (c := .int .u64 b) (d := .int .i64 s) W (by simp)
      obtain ⟨lq, q0, q1, q2, q3⟩ := HB.dec (t := 25) (g := w.heap.size + 1) (a := .bool true) (b := .int .u64 a') (c := .int .u64 b') (d := .int .i64 s') W (by simp)
      go_wp2_with fail
      rw [show max s s' = s' by omega]
      refine (bothAt_all true a b s true a' b' s' s' _ ha hb1 ha' hb1' h0 h0' hst hst' ht9).mono ?_
      rintro e w3 ⟨_, ⟨x, y, p, x', y', p', SX, SX', rfl⟩, rfl, hb⟩
      replace W := W.below hb
      clear hb lq q0 q1 q2 q3 lp p0 p1 p2 p3
      obtain ⟨rfl, hx, hy, ex⟩ := sz_yes SX HC.out.1
      obtain ⟨rfl, hx', hy', ex'⟩ := sz_yes SX' HC.out.2.1
      have EX := Lib.hid ex
      have EX' := Lib.hid ex'
      clear ex ex' SX SX'
      obtain ⟨lp, p0, p1, p2, p3⟩ := HB.dec (t := 25) (g := w.heap.size) (a := .bool true) (b := .int .u64 a) (c := .int .u64 b) (d := .int .i64 s) W (by simp)
      obtain ⟨lq, q0, q1, q2, q3⟩ := HB.dec (t := 25) (g := w.heap.size + 1) (a := .bool true) (b := .int .u64 a') (c := .int .u64 b') (d := .int .i64 s') W (by simp)
      replace W := (W.push #[.int .u64 x, .int .u64 y] 23).push #[.int .u64 x', .int .u64 y'] 23
      simp only [World.size_alloc] at W
      go_wp2_with fail
      refine (add_c x y x' y' _ hx hy hx' hy').mono ?_
      rintro e w4 ⟨_, ⟨s0, s1, p, HS, rfl⟩, rfl, hb⟩
      replace W := W.below hb
      clear hb lq q0 q1 q2 q3 lp p0 p1 p2 p3
      obtain ⟨rfl, hs0, hs1, es⟩ := sumR_yes HS (by rw [EX.out, EX'.out]; exact HC.out.2.2)
      rw [EX.out, EX'.out] at es
      have ES := Lib.hid es
      clear es HS
      obtain ⟨lp, p0, p1, p2, p3⟩ := HB.dec (t := 25) (g := w.heap.size) (a := .bool true) (b := .int .u64 a) (c := .int .u64 b) (d := .int .i64 s) W (by simp)
      replace W := W.push #[.int .u64 s0, .int .u64 s1] 23
      go_wp2_with fail
      refine (checked_x true s0 s1 s' _ hs0 hs1).mono ?_
      rintro e w5 ⟨_, ⟨m, c, d, q, er, HD, rfl⟩, rfl, hb⟩
      replace W := W.below hb
      clear hb lp p0 p1 p2 p3
      rw [ES.out] at HD
      obtain ⟨lq, q0, q1, q2, q3⟩ := HB.dec (t := 25) (g := w.heap.size + 1 + 1) (a := .bool false) (b := .int .u64 0) (c := .int .u64 0) (d := .int .i64 0) W (by simp)
      have Bz := HB.blk (g := w.heap.size + 1 + 1) (t := 25) (cs := #[.bool false, .int .u64 0, .int .u64 0, .int .i64 0]) W (by simp)
      have fz0 := Bz.frozen 0
      have fz1 := Bz.frozen 1
      have fz2 := Bz.frozen 2
      have fz3 := Bz.frozen 3
      clear Bz
      have HB1 := Lib.hid W.1
      clear W
      have HDh := Lib.hid HD
      clear HD
      go_wp2
      exact bodyPost_ret (v := .tuple #[.agg #[.bool m, .int .u64 c, .int .u64 d, .int .i64 q], .int .i64 er]) (by simp [results, Tryz.results6, go_sem, q0, q1, q2, q3]) rfl ⟨_, ⟨_, _, _, _, _, HDh.out, rfl⟩, rfl, bel4 HB1.out hlg⟩
  · cases n
    · have W : HB w [(w.heap.size + 1 + 1, 25, #[.bool false, .int .u64 0, .int .u64 0, .int .i64 0]), (w.heap.size + 1, 25, #[.bool false, .int .u64 a', .int .u64 b', .int .i64 s']), (w.heap.size, 25, #[.bool false, .int .u64 a, .int .u64 b, .int .i64 s])] (((w.alloc (.cells #[.bool false, .int .u64 a, .int .u64 b, .int .i64 s] 25)).alloc (.cells #[.bool false, .int .u64 a', .int .u64 b', .int .i64 s'] 25)).alloc (.cells #[.bool false, .int .u64 0, .int .u64 0, .int .i64 0] 25)) := by
        have h := (((HB.start (Below.refl _ w)).push #[.bool false, .int .u64 a, .int .u64 b, .int .i64 s] 25).push #[.bool false, .int .u64 a', .int .u64 b', .int .i64 s'] 25).push #[.bool false, .int .u64 0, .int .u64 0, .int .i64 0] 25
        simpa using h
      go_enter Tryz.func6, Tryz.ntmps6
      have RC := right_c false a b s (((w.alloc (.cells #[.bool false, .int .u64 a, .int .u64 b, .int .i64 s] 25)).alloc (.cells #[.bool false, .int .u64 a', .int .u64 b', .int .i64 s'] 25)).alloc (.cells #[.bool false, .int .u64 0, .int .u64 0, .int .i64 0] 25)) ha hb1
      rw [HR.out] at RC
      have RH := Lib.hid RC
      clear RC
      go_wp2_with fail
      refine (RH.out).mono ?_
      rintro e w1 ⟨_, rfl, rfl, hb⟩
      replace W := W.below hb
      clear hb RH
      obtain ⟨lq, q0, q1, q2, q3⟩ := HB.dec (t := 25) (g := w.heap.size + 1) (a := .bool false) (b := .int .u64 a') (c := .int .u64 b') (d := .int .i64 s') W (by simp)
      have RC := right_c false a' b' s' w1 ha' hb1'
      rw [HR'.out] at RC
      have RH := Lib.hid RC
      clear RC
      go_wp2_with fail
      refine (RH.out).mono ?_
      rintro e w2 ⟨_, rfl, rfl, hb⟩
      replace W := W.below hb
      clear hb lq q0 q1 q2 q3 RH
      obtain ⟨lp, p0, p1, p2, p3⟩ := HB.dec (t := 25) (g := w.heap.size) (a := .bool false) (b := .int .u64 a) (c := .int .u64 b) (d := .int .i64 s) W (by simp)
      obtain ⟨lq, q0, q1, q2, q3⟩ := HB.dec (t := 25) (g := w.heap.size + 1) (a := .bool false) (b := .int .u64 a') (c := .int .u64 b') (d := .int .i64 s') W (by simp)
      go_wp2_with fail
      rw [show max s s' = s by omega]
      refine (bothAt_all false a b s false a' b' s' s _ ha hb1 ha' hb1' h0 h0' hst hst' ht9).mono ?_
      rintro e w3 ⟨_, ⟨x, y, p, x', y', p', SX, SX', rfl⟩, rfl, hb⟩
      replace W := W.below hb
      clear hb lq q0 q1 q2 q3 lp p0 p1 p2 p3
      obtain ⟨rfl, hx, hy, ex⟩ := sz_yes SX HC.out.1
      obtain ⟨rfl, hx', hy', ex'⟩ := sz_yes SX' HC.out.2.1
      have EX := Lib.hid ex
      have EX' := Lib.hid ex'
      clear ex ex' SX SX'
      obtain ⟨lp, p0, p1, p2, p3⟩ := HB.dec (t := 25) (g := w.heap.size) (a := .bool false) (b := .int .u64 a) (c := .int .u64 b) (d := .int .i64 s) W (by simp)
      obtain ⟨lq, q0, q1, q2, q3⟩ := HB.dec (t := 25) (g := w.heap.size + 1) (a := .bool false) (b := .int .u64 a') (c := .int .u64 b') (d := .int .i64 s') W (by simp)
      replace W := (W.push #[.int .u64 x, .int .u64 y] 23).push #[.int .u64 x', .int .u64 y'] 23
      simp only [World.size_alloc] at W
      go_wp2_with fail
      refine (add_c x y x' y' _ hx hy hx' hy').mono ?_
      rintro e w4 ⟨_, ⟨s0, s1, p, HS, rfl⟩, rfl, hb⟩
      replace W := W.below hb
      clear hb lq q0 q1 q2 q3 lp p0 p1 p2 p3
      obtain ⟨rfl, hs0, hs1, es⟩ := sumR_yes HS (by rw [EX.out, EX'.out]; exact HC.out.2.2)
      rw [EX.out, EX'.out] at es
      have ES := Lib.hid es
      clear es HS
      obtain ⟨lp, p0, p1, p2, p3⟩ := HB.dec (t := 25) (g := w.heap.size) (a := .bool false) (b := .int .u64 a) (c := .int .u64 b) (d := .int .i64 s) W (by simp)
      replace W := W.push #[.int .u64 s0, .int .u64 s1] 23
      go_wp2_with fail
      refine (checked_x false s0 s1 s _ hs0 hs1).mono ?_
      rintro e w5 ⟨_, ⟨m, c, d, q, er, HD, rfl⟩, rfl, hb⟩
      replace W := W.below hb
      clear hb lp p0 p1 p2 p3
      rw [ES.out] at HD
      obtain ⟨lq, q0, q1, q2, q3⟩ := HB.dec (t := 25) (g := w.heap.size + 1 + 1) (a := .bool false) (b := .int .u64 0) (c := .int .u64 0) (d := .int .i64 0) W (by simp)
      have Bz := HB.blk (g := w.heap.size + 1 + 1) (t := 25) (cs := #[.bool false, .int .u64 0, .int .u64 0, .int .i64 0]) W (by simp)
      have fz0 := Bz.frozen 0
      have fz1 := Bz.frozen 1
      have fz2 := Bz.frozen 2
      have fz3 := Bz.frozen 3
      clear Bz
      have HB1 := Lib.hid W.1
      clear W
      have HDh := Lib.hid HD
      clear HD
      go_wp2
      exact bodyPost_ret (v := .tuple #[.agg #[.bool m, .int .u64 c, .int .u64 d, .int .i64 q], .int .i64 er]) (by simp [results, Tryz.results6, go_sem, q0, q1, q2, q3]) rfl ⟨_, ⟨_, _, _, _, _, HDh.out, rfl⟩, rfl, bel4 HB1.out hlg⟩
    · have W : HB w [(w.heap.size + 1 + 1, 25, #[.bool false, .int .u64 0, .int .u64 0, .int .i64 0]), (w.heap.size + 1, 25, #[.bool true, .int .u64 a', .int .u64 b', .int .i64 s']), (w.heap.size, 25, #[.bool true, .int .u64 a, .int .u64 b, .int .i64 s])] (((w.alloc (.cells #[.bool true, .int .u64 a, .int .u64 b, .int .i64 s] 25)).alloc (.cells #[.bool true, .int .u64 a', .int .u64 b', .int .i64 s'] 25)).alloc (.cells #[.bool false, .int .u64 0, .int .u64 0, .int .i64 0] 25)) := by
        have h := (((HB.start (Below.refl _ w)).push #[.bool true, .int .u64 a, .int .u64 b, .int .i64 s] 25).push #[.bool true, .int .u64 a', .int .u64 b', .int .i64 s'] 25).push #[.bool false, .int .u64 0, .int .u64 0, .int .i64 0] 25
        simpa using h
      go_enter Tryz.func6, Tryz.ntmps6
      have RC := right_c true a b s (((w.alloc (.cells #[.bool true, .int .u64 a, .int .u64 b, .int .i64 s] 25)).alloc (.cells #[.bool true, .int .u64 a', .int .u64 b', .int .i64 s'] 25)).alloc (.cells #[.bool false, .int .u64 0, .int .u64 0, .int .i64 0] 25)) ha hb1
      rw [HR.out] at RC
      have RH := Lib.hid RC
      clear RC
      go_wp2_with fail
      refine (RH.out).mono ?_
      rintro e w1 ⟨_, rfl, rfl, hb⟩
      replace W := W.below hb
      clear hb RH
      obtain ⟨lq, q0, q1, q2, q3⟩ := HB.dec (t := 25) (g := w.heap.size + 1) (a := .bool true) (b := .int .u64 a') (c := .int .u64 b') (d := .int .i64 s') W (by simp)
      have RC := right_c true a' b' s' w1 ha' hb1'
      rw [HR'.out] at RC
      have RH := Lib.hid RC
      clear RC
      go_wp2_with fail
      refine (RH.out).mono ?_
      rintro e w2 ⟨_, rfl, rfl, hb⟩
      replace W := W.below hb
      clear hb lq q0 q1 q2 q3 RH
      obtain ⟨lp, p0, p1, p2, p3⟩ := HB.dec (t := 25) (g := w.heap.size) (a := .bool true) (b := .int .u64 a) (c := .int .u64 b) (d := .int .i64 s) W (by simp)
      obtain ⟨lq, q0, q1, q2, q3⟩ := HB.dec (t := 25) (g := w.heap.size + 1) (a := .bool true) (b := .int .u64 a') (c := .int .u64 b') (d := .int .i64 s') W (by simp)
      go_wp2_with fail
      rw [show max s s' = s by omega]
      refine (bothAt_all true a b s true a' b' s' s _ ha hb1 ha' hb1' h0 h0' hst hst' ht9).mono ?_
      rintro e w3 ⟨_, ⟨x, y, p, x', y', p', SX, SX', rfl⟩, rfl, hb⟩
      replace W := W.below hb
      clear hb lq q0 q1 q2 q3 lp p0 p1 p2 p3
      obtain ⟨rfl, hx, hy, ex⟩ := sz_yes SX HC.out.1
      obtain ⟨rfl, hx', hy', ex'⟩ := sz_yes SX' HC.out.2.1
      have EX := Lib.hid ex
      have EX' := Lib.hid ex'
      clear ex ex' SX SX'
      obtain ⟨lp, p0, p1, p2, p3⟩ := HB.dec (t := 25) (g := w.heap.size) (a := .bool true) (b := .int .u64 a) (c := .int .u64 b) (d := .int .i64 s) W (by simp)
      obtain ⟨lq, q0, q1, q2, q3⟩ := HB.dec (t := 25) (g := w.heap.size + 1) (a := .bool true) (b := .int .u64 a') (c := .int .u64 b') (d := .int .i64 s') W (by simp)
      replace W := (W.push #[.int .u64 x, .int .u64 y] 23).push #[.int .u64 x', .int .u64 y'] 23
      simp only [World.size_alloc] at W
      go_wp2_with fail
      refine (add_c x y x' y' _ hx hy hx' hy').mono ?_
      rintro e w4 ⟨_, ⟨s0, s1, p, HS, rfl⟩, rfl, hb⟩
      replace W := W.below hb
      clear hb lq q0 q1 q2 q3 lp p0 p1 p2 p3
      obtain ⟨rfl, hs0, hs1, es⟩ := sumR_yes HS (by rw [EX.out, EX'.out]; exact HC.out.2.2)
      rw [EX.out, EX'.out] at es
      have ES := Lib.hid es
      clear es HS
      obtain ⟨lp, p0, p1, p2, p3⟩ := HB.dec (t := 25) (g := w.heap.size) (a := .bool true) (b := .int .u64 a) (c := .int .u64 b) (d := .int .i64 s) W (by simp)
      replace W := W.push #[.int .u64 s0, .int .u64 s1] 23
      go_wp2_with fail
      refine (checked_x true s0 s1 s _ hs0 hs1).mono ?_
      rintro e w5 ⟨_, ⟨m, c, d, q, er, HD, rfl⟩, rfl, hb⟩
      replace W := W.below hb
      clear hb lp p0 p1 p2 p3
      rw [ES.out] at HD
      obtain ⟨lq, q0, q1, q2, q3⟩ := HB.dec (t := 25) (g := w.heap.size + 1 + 1) (a := .bool false) (b := .int .u64 0) (c := .int .u64 0) (d := .int .i64 0) W (by simp)
      have Bz := HB.blk (g := w.heap.size + 1 + 1) (t := 25) (cs := #[.bool false, .int .u64 0, .int .u64 0, .int .i64 0]) W (by simp)
      have fz0 := Bz.frozen 0
      have fz1 := Bz.frozen 1
      have fz2 := Bz.frozen 2
      have fz3 := Bz.frozen 3
      clear Bz
      have HB1 := Lib.hid W.1
      clear W
      have HDh := Lib.hid HD
      clear HD
      go_wp2
      exact bodyPost_ret (v := .tuple #[.agg #[.bool m, .int .u64 c, .int .u64 d, .int .i64 q], .int .i64 er]) (by simp [results, Tryz.results6, go_sem, q0, q1, q2, q3]) rfl ⟨_, ⟨_, _, _, _, _, HDh.out, rfl⟩, rfl, bel4 HB1.out hlg⟩

set_option maxRecDepth 100000 in
set_option maxHeartbeats 1600000 in
theorem addA_over (n : Bool) (a b s a' b' s' t : Int) (w : World) (ha : U64 a) (hb1 : U64 b) (ha' : U64 a') (hb1' : U64 b') (hr : RightD n a b s) (hr' : RightD n a' b' s') (ht : (s < s' ∧ s' = t) ∨ (s' ≤ s ∧ s = t)) (hc : upW a b s t < 340282366920938463463374607431768211456 ∧ upW a' b' s' t < 340282366920938463463374607431768211456 ∧ 340282366920938463463374607431768211456 ≤ upW a b s t + upW a' b' s' t) :
    Calls Tryz.prog 6 #[.agg #[.bool n, .int .u64 a, .int .u64 b, .int .i64 s], .agg #[.bool n, .int .u64 a', .int .u64 b', .int .i64 s']] w (Ret w (Ans (errV 3))) := by
  have h0 : 0 ≤ s := hr.2.1
  have h0' : 0 ≤ s' := hr'.2.1
  have h9 : s ≤ 9 := hr.2.2.1
  have h9' : s' ≤ 9 := hr'.2.2.1
  have ht9 : t ≤ 9 := by omega
  have hst : s ≤ t := by omega
  have hst' : s' ≤ t := by omega
  have HR := Lib.hid (decide_eq_true hr)
  have HR' := Lib.hid (decide_eq_true hr')
  have HC := Lib.hid hc
  clear hr hr' hc
  have hlg : w.heap.size ≤ w.heap.size + 1 + 1 := by omega
  rcases ht with ⟨hss, rfl⟩ | ⟨hss, rfl⟩
  · cases n
    · have W : HB w [(w.heap.size + 1 + 1, 25, #[.bool false, .int .u64 0, .int .u64 0, .int .i64 0]), (w.heap.size + 1, 25, #[.bool false, .int .u64 a', .int .u64 b', .int .i64 s']), (w.heap.size, 25, #[.bool false, .int .u64 a, .int .u64 b, .int .i64 s])] (((w.alloc (.cells #[.bool false, .int .u64 a, .int .u64 b, .int .i64 s] 25)).alloc (.cells #[.bool false, .int .u64 a', .int .u64 b', .int .i64 s'] 25)).alloc (.cells #[.bool false, .int .u64 0, .int .u64 0, .int .i64 0] 25)) := by
        have h := (((HB.start (Below.refl _ w)).push #[.bool false, .int .u64 a, .int .u64 b, .int .i64 s] 25).push #[.bool false, .int .u64 a', .int .u64 b', .int .i64 s'] 25).push #[.bool false, .int .u64 0, .int .u64 0, .int .i64 0] 25
        simpa using h
      go_enter Tryz.func6, Tryz.ntmps6
      have RC := right_c false a b s (((w.alloc (.cells #[.bool false, .int .u64 a, .int .u64 b, .int .i64 s] 25)).alloc (.cells #[.bool false, .int .u64 a', .int .u64 b', .int .i64 s'] 25)).alloc (.cells #[.bool false, .int .u64 0, .int .u64 0, .int .i64 0] 25)) ha hb1
      rw [HR.out] at RC
      have RH := Lib.hid RC
      clear RC
      go_wp2_with fail
      refine (RH.out).mono ?_
      rintro e w1 ⟨_, rfl, rfl, hb⟩
      replace W := W.below hb
      clear hb RH
      obtain ⟨lq, q0, q1, q2, q3⟩ := HB.dec (t := 25) (g := w.heap.size + 1) (a := .bool false) (b := .int .u64 a') (c := .int .u64 b') (d := .int .i64 s') W (by simp)
      have RC := right_c false a' b' s' w1 ha' hb1'
      rw [HR'.out] at RC
      have RH := Lib.hid RC
      clear RC
      go_wp2_with fail
      refine (RH.out).mono ?_
      rintro e w2 ⟨_, rfl, rfl, hb⟩
      replace W := W.below hb
      clear hb lq q0 q1 q2 q3 RH
      obtain ⟨lp, p0, p1, p2, p3⟩ := HB.dec (t := 25) (g := w.heap.size) (a := .bool false) (b := .int .u64 a) (c := .int .u64 b) (d := .int .i64 s) W (by simp)
      obtain ⟨lq, q0, q1, q2, q3⟩ := HB.dec (t := 25) (g := w.heap.size + 1) (a := .bool false) (b := .int .u64 a') (c := .int .u64 b') (d := .int .i64 s') W (by simp)
      go_wp2_with fail
      rw [show max s s' = s' by omega]
      refine (bothAt_all false a b s false a' b' s' s' _ ha hb1 ha' hb1' h0 h0' hst hst' ht9).mono ?_
      rintro e w3 ⟨_, ⟨x, y, p, x', y', p', SX, SX', rfl⟩, rfl, hb⟩
      replace W := W.below hb
      clear hb lq q0 q1 q2 q3 lp p0 p1 p2 p3
      obtain ⟨rfl, hx, hy, ex⟩ := sz_yes SX HC.out.1
      obtain ⟨rfl, hx', hy', ex'⟩ := sz_yes SX' HC.out.2.1
      have EX := Lib.hid ex
      have EX' := Lib.hid ex'
      clear ex ex' SX SX'
      obtain ⟨lp, p0, p1, p2, p3⟩ := HB.dec (t := 25) (g := w.heap.size) (a := .bool false) (b := .int .u64 a) (c := .int .u64 b) (d := .int .i64 s) W (by simp)
      obtain ⟨lq, q0, q1, q2, q3⟩ := HB.dec (t := 25) (g := w.heap.size + 1) (a := .bool false) (b := .int .u64 a') (c := .int .u64 b') (d := .int .i64 s') W (by simp)
      replace W := (W.push #[.int .u64 x, .int .u64 y] 23).push #[.int .u64 x', .int .u64 y'] 23
      simp only [World.size_alloc] at W
      go_wp2_with fail
      refine (add_c x y x' y' _ hx hy hx' hy').mono ?_
      rintro e w4 ⟨_, ⟨s0, s1, p, HS, rfl⟩, rfl, hb⟩
      replace W := W.below hb
      clear hb lq q0 q1 q2 q3 lp p0 p1 p2 p3
      obtain rfl := sumR_no HS (by rw [EX.out, EX'.out]; exact HC.out.2.2)
      clear HS
      replace W := W.push #[.int .u64 s0, .int .u64 s1] 23
      obtain ⟨lq, q0, q1, q2, q3⟩ := HB.dec (t := 25) (g := w.heap.size + 1 + 1) (a := .bool false) (b := .int .u64 0) (c := .int .u64 0) (d := .int .i64 0) W (by simp)
      have Bz := HB.blk (g := w.heap.size + 1 + 1) (t := 25) (cs := #[.bool false, .int .u64 0, .int .u64 0, .int .i64 0]) W (by simp)
      have fz0 := Bz.frozen 0
      have fz1 := Bz.frozen 1
      have fz2 := Bz.frozen 2
      have fz3 := Bz.frozen 3
      clear Bz
      have HB1 := Lib.hid W.1
      clear W
      go_wp2
      exact bodyPost_ret (v := .tuple #[.agg #[.bool false, .int .u64 0, .int .u64 0, .int .i64 0], .int .i64 3]) (by simp [results, Tryz.results6, go_sem, q0, q1, q2, q3]) rfl ⟨_, ans_err 3, rfl, bel4 HB1.out hlg⟩
    · have W : HB w [(w.heap.size + 1 + 1, 25, #[.bool false, .int .u64 0, .int .u64 0, .int .i64 0]), (w.heap.size + 1, 25, #[.bool true, .int .u64 a', .int .u64 b', .int .i64 s']), (w.heap.size, 25, #[.bool true, .int .u64 a, .int .u64 b, .int .i64 s])] (((w.alloc (.cells #[.bool true, .int .u64 a, .int .u64 b, .int .i64 s] 25)).alloc (.cells #[.bool true, .int .u64 a', .int .u64 b', .int .i64 s'] 25)).alloc (.cells #[.bool false, .int .u64 0, .int .u64 0, .int .i64 0] 25)) := by
        have h := (((HB.start (Below.refl _ w)).push #[.bool true, .int .u64 a, .int .u64 b, .int .i64 s] 25).push #[.bool true, .int .u64 a', .int .u64 b', .int .i64 s'] 25).push #[.bool false, .int .u64 0, .int .u64 0, .int .i64 0] 25
        simpa using h
      go_enter Tryz.func6, Tryz.ntmps6
      have RC := right_c true a b s (((w.alloc (.cells #[.bool true, .int .u64 a, .int .u64 b, .int .i64 s] 25)).alloc (.cells #[.bool true, .int .u64 a', .int .u64 b', .int .i64 s'] 25)).alloc (.cells #[.bool false, .int .u64 0, .int .u64 0, .int .i64 0] 25)) ha hb1
      rw [HR.out] at RC
      have RH := Lib.hid RC
      clear RC
      go_wp2_with fail
      refine (RH.out).mono ?_
      rintro e w1 ⟨_, rfl, rfl, hb⟩
      replace W := W.below hb
      clear hb RH
      obtain ⟨lq, q0, q1, q2, q3⟩ := HB.dec (t := 25) (g := w.heap.size + 1) (a := .bool true) (b := .int .u64 a') (c := .int .u64 b') (d := .int .i64 s') W (by simp)
      have RC := right_c true a' b' s' w1 ha' hb1'
      rw [HR'.out] at RC
      have RH := Lib.hid RC
      clear RC
      go_wp2_with fail
      refine (RH.out).mono ?_
      rintro e w2 ⟨_, rfl, rfl, hb⟩
      replace W := W.below hb
      clear hb lq q0 q1 q2 q3 RH
      obtain ⟨lp, p0, p1, p2, p3⟩ := HB.dec (t := 25) (g := w.heap.size) (a := .bool true) (b := .int .u64 a) (c := .int .u64 b) (d := .int .i64 s) W (by simp)
      obtain ⟨lq, q0, q1, q2, q3⟩ := HB.dec (t := 25) (g := w.heap.size + 1) (a := .bool true) (b := .int .u64 a') (c := .int .u64 b') (d := .int .i64 s') W (by simp)
      go_wp2_with fail
      rw [show max s s' = s' by omega]
      refine (bothAt_all true a b s true a' b' s' s' _ ha hb1 ha' hb1' h0 h0' hst hst' ht9).mono ?_
      rintro e w3 ⟨_, ⟨x, y, p, x', y', p', SX, SX', rfl⟩, rfl, hb⟩
      replace W := W.below hb
      clear hb lq q0 q1 q2 q3 lp p0 p1 p2 p3
      obtain ⟨rfl, hx, hy, ex⟩ := sz_yes SX HC.out.1
      obtain ⟨rfl, hx', hy', ex'⟩ := sz_yes SX' HC.out.2.1
      have EX := Lib.hid ex
      have EX' := Lib.hid ex'
      clear ex ex' SX SX'
      obtain ⟨lp, p0, p1, p2, p3⟩ := HB.dec (t := 25) (g := w.heap.size) (a := .bool true) (b := .int .u64 a) (c := .int .u64 b) (d := .int .i64 s) W (by simp)
      obtain ⟨lq, q0, q1, q2, q3⟩ := HB.dec (t := 25) (g := w.heap.size + 1) (a := .bool true) (b := .int .u64 a') (c := .int .u64 b') (d := .int .i64 s') W (by simp)
      replace W := (W.push #[.int .u64 x, .int .u64 y] 23).push #[.int .u64 x', .int .u64 y'] 23
      simp only [World.size_alloc] at W
      go_wp2_with fail
      refine (add_c x y x' y' _ hx hy hx' hy').mono ?_
      rintro e w4 ⟨_, ⟨s0, s1, p, HS, rfl⟩, rfl, hb⟩
      replace W := W.below hb
      clear hb lq q0 q1 q2 q3 lp p0 p1 p2 p3
      obtain rfl := sumR_no HS (by rw [EX.out, EX'.out]; exact HC.out.2.2)
      clear HS
      replace W := W.push #[.int .u64 s0, .int .u64 s1] 23
      obtain ⟨lq, q0, q1, q2, q3⟩ := HB.dec (t := 25) (g := w.heap.size + 1 + 1) (a := .bool false) (b := .int .u64 0) (c := .int .u64 0) (d := .int .i64 0) W (by simp)
      have Bz := HB.blk (g := w.heap.size + 1 + 1) (t := 25) (cs := #[.bool false, .int .u64 0, .int .u64 0, .int .i64 0]) W (by simp)
      have fz0 := Bz.frozen 0
      have fz1 := Bz.frozen 1
      have fz2 := Bz.frozen 2
      have fz3 := Bz.frozen 3
      clear Bz
      have HB1 := Lib.hid W.1
      clear W
      go_wp2
      exact bodyPost_ret (v := .tuple #[.agg #[.bool false, .int .u64 0, .int .u64 0, .int .i64 0], .int .i64 3]) (by simp [results, Tryz.results6, go_sem, q0, q1, q2, q3]) rfl ⟨_, ans_err 3, rfl, bel4 HB1.out hlg⟩
  · cases n
    · have W : HB w [(w.heap.size + 1 + 1, 25, #[.bool false, .int .u64 0, .int .u64 0, .int .i64 0]), (w.heap.size + 1, 25, #[.bool false, .int .u64 a', .int .u64 b', .int .i64 s']), (w.heap.size, 25, #[.bool false, .int .u64 a, .int .u64 b, .int .i64 s])] (((w.alloc (.cells #[.bool false, .int .u64 a, .int .u64 b, .int .i64 s] 25)).alloc (.cells #[.bool false, .int .u64 a', .int .u64 b', .int .i64 s'] 25)).alloc (.cells #[.bool false, .int .u64 0, .int .u64 0, .int .i64 0] 25)) := by
        have h := (((HB.start (Below.refl _ w)).push #[.bool false, .int .u64 a, .int .u64 b, .int .i64 s] 25).push #[.bool false, .int .u64 a', .int .u64 b', .int .i64 s'] 25).push #[.bool false, .int .u64 0, .int .u64 0, .int .i64 0] 25
        simpa using h
      go_enter Tryz.func6, Tryz.ntmps6
      have RC := right_c false a b s (((w.alloc (.cells #[.bool false, .int .u64 a, .int .u64 b, .int .i64 s] 25)).alloc (.cells #[.bool false, .int .u64 a', .int .u64 b', .int .i64 s'] 25)).alloc (.cells #[.bool false, .int .u64 0, .int .u64 0, .int .i64 0] 25)) ha hb1
      rw [HR.out] at RC
      have RH := Lib.hid RC
      clear RC
      go_wp2_with fail
      refine (RH.out).mono ?_
      rintro e w1 ⟨_, rfl, rfl, hb⟩
      replace W := W.below hb
      clear hb RH
      obtain ⟨lq, q0, q1, q2, q3⟩ := HB.dec (t := 25) (g := w.heap.size + 1) (a := .bool false) (b := .int .u64 a') (c := .int .u64 b') (d := .int .i64 s') W (by simp)
      have RC := right_c false a' b' s' w1 ha' hb1'
      rw [HR'.out] at RC
      have RH := Lib.hid RC
      clear RC
      go_wp2_with fail
      refine (RH.out).mono ?_
      rintro e w2 ⟨_, rfl, rfl, hb⟩
      replace W := W.below hb
      clear hb lq q0 q1 q2 q3 RH
      obtain ⟨lp, p0, p1, p2, p3⟩ := HB.dec (t := 25) (g := w.heap.size) (a := .bool false) (b := .int .u64 a) (c := .int .u64 b) (d := .int .i64 s) W (by simp)
      obtain ⟨lq, q0, q1, q2, q3⟩ := HB.dec (t := 25) (g := w.heap.size + 1) (a := .bool false) (b := .int .u64 a') (c := .int .u64 b') (d := .int .i64 s') W (by simp)
      go_wp2_with fail
      rw [show max s s' = s by omega]
      refine (bothAt_all false a b s false a' b' s' s _ ha hb1 ha' hb1' h0 h0' hst hst' ht9).mono ?_
      rintro e w3 ⟨_, ⟨x, y, p, x', y', p', SX, SX', rfl⟩, rfl, hb⟩
      replace W := W.below hb
      clear hb lq q0 q1 q2 q3 lp p0 p1 p2 p3
      obtain ⟨rfl, hx, hy, ex⟩ := sz_yes SX HC.out.1
      obtain ⟨rfl, hx', hy', ex'⟩ := sz_yes SX' HC.out.2.1
      have EX := Lib.hid ex
      have EX' := Lib.hid ex'
      clear ex ex' SX SX'
      obtain ⟨lp, p0, p1, p2, p3⟩ := HB.dec (t := 25) (g := w.heap.size) (a := .bool false) (b := .int .u64 a) (c := .int .u64 b) (d := .int .i64 s) W (by simp)
      obtain ⟨lq, q0, q1, q2, q3⟩ := HB.dec (t := 25) (g := w.heap.size + 1) (a := .bool false) (b := .int .u64 a') (c := .int .u64 b') (d := .int .i64 s') W (by simp)
      replace W := (W.push #[.int .u64 x, .int .u64 y] 23).push #[.int .u64 x', .int .u64 y'] 23
      simp only [World.size_alloc] at W
      go_wp2_with fail
      refine (add_c x y x' y' _ hx hy hx' hy').mono ?_
      rintro e w4 ⟨_, ⟨s0, s1, p, HS, rfl⟩, rfl, hb⟩
      replace W := W.below hb
      clear hb lq q0 q1 q2 q3 lp p0 p1 p2 p3
      obtain rfl := sumR_no HS (by rw [EX.out, EX'.out]; exact HC.out.2.2)
      clear HS
      replace W := W.push #[.int .u64 s0, .int .u64 s1] 23
      obtain ⟨lq, q0, q1, q2, q3⟩ := HB.dec (t := 25) (g := w.heap.size + 1 + 1) (a := .bool false) (b := .int .u64 0) (c := .int .u64 0) (d := .int .i64 0) W (by simp)
      have Bz := HB.blk (g := w.heap.size + 1 + 1) (t := 25) (cs := #[.bool false, .int .u64 0, .int .u64 0, .int .i64 0]) W (by simp)
      have fz0 := Bz.frozen 0
      have fz1 := Bz.frozen 1
      have fz2 := Bz.frozen 2
      have fz3 := Bz.frozen 3
      clear Bz
      have HB1 := Lib.hid W.1
      clear W
      go_wp2
      exact bodyPost_ret (v := .tuple #[.agg #[.bool false, .int .u64 0, .int .u64 0, .int .i64 0], .int .i64 3]) (by simp [results, Tryz.results6, go_sem, q0, q1, q2, q3]) rfl ⟨_, ans_err 3, rfl, bel4 HB1.out hlg⟩
    · have W : HB w [(w.heap.size + 1 + 1, 25, #[.bool false, .int .u64 0, .int .u64 0, .int .i64 0]), (w.heap.size + 1, 25, #[.bool true, .int .u64 a', .int .u64 b', .int .i64 s']), (w.heap.size, 25, #[.bool true, .int .u64 a, .int .u64 b, .int .i64 s])] (((w.alloc (.cells #[.bool true, .int .u64 a, .int .u64 b, .int .i64 s] 25)).alloc (.cells #[.bool true, .int .u64 a', .int .u64 b', .int .i64 s'] 25)).alloc (.cells #[.bool false, .int .u64 0, .int .u64 0, .int .i64 0] 25)) := by
        have h := (((HB.start (Below.refl _ w)).push #[.bool true, .int .u64 a, .int .u64 b, .int .i64 s] 25).push #[.bool true, .int .u64 a', .int .u64 b', .int .i64 s'] 25).push #[.bool false, .int .u64 0, .int .u64 0, .int .i64 0] 25
        simpa using h
      go_enter Tryz.func6, Tryz.ntmps6
      have RC := right_c true a b s (((w.alloc (.cells #[.bool true, .int .u64 a, .int .u64 b, .int .i64 s] 25)).alloc (.cells #[.bool true, .int .u64 a', .int .u64 b', .int .i64 s'] 25)).alloc (.cells #[.bool false, .int .u64 0, .int .u64 0, .int .i64 0] 25)) ha hb1
      rw [HR.out] at RC
      have RH := Lib.hid RC
      clear RC
      go_wp2_with fail
      refine (RH.out).mono ?_
      rintro e w1 ⟨_, rfl, rfl, hb⟩
      replace W := W.below hb
      clear hb RH
      obtain ⟨lq, q0, q1, q2, q3⟩ := HB.dec (t := 25) (g := w.heap.size + 1) (a := .bool true) (b := .int .u64 a') (c := .int .u64 b') (d := .int .i64 s') W (by simp)
      have RC := right_c true a' b' s' w1 ha' hb1'
      rw [HR'.out] at RC
      have RH := Lib.hid RC
      clear RC
      go_wp2_with fail
      refine (RH.out).mono ?_
      rintro e w2 ⟨_, rfl, rfl, hb⟩
      replace W := W.below hb
      clear hb lq q0 q1 q2 q3 RH
      obtain ⟨lp, p0, p1, p2, p3⟩ := HB.dec (t := 25) (g := w.heap.size) (a := .bool true) (b := .int .u64 a) (c := .int .u64 b) (d := .int .i64 s) W (by simp)
      obtain ⟨lq, q0, q1, q2, q3⟩ := HB.dec (t := 25) (g := w.heap.size + 1) (a := .bool true) (b := .int .u64 a') (c := .int .u64 b') (d := .int .i64 s') W (by simp)
      go_wp2_with fail
      rw [show max s s' = s by omega]
      refine (bothAt_all true a b s true a' b' s' s _ ha hb1 ha' hb1' h0 h0' hst hst' ht9).mono ?_
      rintro e w3 ⟨_, ⟨x, y, p, x', y', p', SX, SX', rfl⟩, rfl, hb⟩
      replace W := W.below hb
      clear hb lq q0 q1 q2 q3 lp p0 p1 p2 p3
      obtain ⟨rfl, hx, hy, ex⟩ := sz_yes SX HC.out.1
      obtain ⟨rfl, hx', hy', ex'⟩ := sz_yes SX' HC.out.2.1
      have EX := Lib.hid ex
      have EX' := Lib.hid ex'
      clear ex ex' SX SX'
      obtain ⟨lp, p0, p1, p2, p3⟩ := HB.dec (t := 25) (g := w.heap.size) (a := .bool true) (b := .int .u64 a) (c := .int .u64 b) (d := .int .i64 s) W (by simp)
      obtain ⟨lq, q0, q1, q2, q3⟩ := HB.dec (t := 25) (g := w.heap.size + 1) (a := .bool true) (b := .int .u64 a') (c := .int .u64 b') (d := .int .i64 s') W (by simp)
      replace W := (W.push #[.int .u64 x, .int .u64 y] 23).push #[.int .u64 x', .int .u64 y'] 23
      simp only [World.size_alloc] at W
      go_wp2_with fail
      refine (add_c x y x' y' _ hx hy hx' hy').mono ?_
      rintro e w4 ⟨_, ⟨s0, s1, p, HS, rfl⟩, rfl, hb⟩
      replace W := W.below hb
      clear hb lq q0 q1 q2 q3 lp p0 p1 p2 p3
      obtain rfl := sumR_no HS (by rw [EX.out, EX'.out]; exact HC.out.2.2)
      clear HS
      replace W := W.push #[.int .u64 s0, .int .u64 s1] 23
      obtain ⟨lq, q0, q1, q2, q3⟩ := HB.dec (t := 25) (g := w.heap.size + 1 + 1) (a := .bool false) (b := .int .u64 0) (c := .int .u64 0) (d := .int .i64 0) W (by simp)
      have Bz := HB.blk (g := w.heap.size + 1 + 1) (t := 25) (cs := #[.bool false, .int .u64 0, .int .u64 0, .int .i64 0]) W (by simp)
      have fz0 := Bz.frozen 0
      have fz1 := Bz.frozen 1
      have fz2 := Bz.frozen 2
      have fz3 := Bz.frozen 3
      clear Bz
      have HB1 := Lib.hid W.1
      clear W
      go_wp2
      exact bodyPost_ret (v := .tuple #[.agg #[.bool false, .int .u64 0, .int .u64 0, .int .i64 0], .int .i64 3]) (by simp [results, Tryz.results6, go_sem, q0, q1, q2, q3]) rfl ⟨_, ans_err 3, rfl, bel4 HB1.out hlg⟩

set_option maxRecDepth 100000 in
set_option maxHeartbeats 1600000 in
theorem addA_ge (n : Bool) (n' : Bool) (hn : n' = !n) (a b s a' b' s' t : Int) (w : World) (ha : U64 a) (hb1 : U64 b) (ha' : U64 a') (hb1' : U64 b') (hr : RightD n a b s) (hr' : RightD n' a' b' s') (ht : (s < s' ∧ s' = t) ∨ (s' ≤ s ∧ s = t)) (hc : upW a b s t < 340282366920938463463374607431768211456 ∧ upW a' b' s' t < 340282366920938463463374607431768211456 ∧ upW a' b' s' t ≤ upW a b s t) :
    Calls Tryz.prog 6 #[.agg #[.bool n, .int .u64 a, .int .u64 b, .int .i64 s], .agg #[.bool n', .int .u64 a', .int .u64 b', .int .i64 s']] w (Ret w (Ans (chkV n (upW a b s t - upW a' b' s' t) t))) := by
  have h0 : 0 ≤ s := hr.2.1
  have h0' : 0 ≤ s' := hr'.2.1
  have h9 : s ≤ 9 := hr.2.2.1
  have h9' : s' ≤ 9 := hr'.2.2.1
  have hnn : (n = false ∧ n' = true) ∨ (n = true ∧ n' = false) := by rw [hn]; cases n <;> simp
  clear hn
  have ht9 : t ≤ 9 := by omega
  have hst : s ≤ t := by omega
  have hst' : s' ≤ t := by omega
  have HR := Lib.hid (decide_eq_true hr)
  have HR' := Lib.hid (decide_eq_true hr')
  have HC := Lib.hid hc
  clear hr hr' hc
  have hlg : w.heap.size ≤ w.heap.size + 1 + 1 := by omega
  rcases ht with ⟨hss, rfl⟩ | ⟨hss, rfl⟩
  · rcases hnn with ⟨rfl, rfl⟩ | ⟨rfl, rfl⟩
    · have W : HB w [(w.heap.size + 1 + 1, 25, #[.bool false, .int .u64 0, .int .u64 0, .int .i64 0]), (w.heap.size + 1, 25, #[.bool true, .int .u64 a', .int .u64 b', .int .i64 s']), (w.heap.size, 25, #[.bool false, .int .u64 a, .int .u64 b, .int .i64 s])] (((w.alloc (.cells #[.bool false, .int .u64 a, .int .u64 b, .int .i64 s] 25)).alloc (.cells #[.bool true, .int .u64 a', .int .u64 b', .int .i64 s'] 25)).alloc (.cells #[.bool false, .int .u64 0, .int .u64 0, .int .i64 0] 25)) := by
        have h := (((HB.start (Below.refl _ w)).push #[.bool false, .int .u64 a, .int .u64 b, .int .i64 s] 25).push #[.bool true, .int .u64 a', .int .u64 b', .int .i64 s'] 25).push #[.bool false, .int .u64 0, .int .u64 0, .int .i64 0] 25
        simpa using h
      go_enter Tryz.func6, Tryz.ntmps6
      have RC := right_c false a b s (((w.alloc (.cells #[.bool false, .int .u64 a, .int .u64 b, .int .i64 s] 25)).alloc (.cells #[.bool true, .int .u64 a', .int .u64 b', .int .i64 s'] 25)).alloc (.cells #[.bool false, .int .u64 0, .int .u64 0, .int .i64 0] 25)) ha hb1
      rw [HR.out] at RC
      have RH := Lib.hid RC
      clear RC
      go_wp2_with fail
      refine (RH.out).mono ?_
      rintro e w1 ⟨_, rfl, rfl, hb⟩
      replace W := W.below hb
      clear hb RH
      obtain ⟨lq, q0, q1, q2, q3⟩ := HB.dec (t := 25) (g := w.heap.size + 1) (a := .bool true) (b := .int .u64 a') (c := .int .u64 b') (d := .int .i64 s') W (by simp)
      have RC := right_c true a' b' s' w1 ha' hb1'
      rw [HR'.out] at RC
      have RH := Lib.hid RC
      clear RC
      go_wp2_with fail
      refine (RH.out).mono ?_
      rintro e w2 ⟨_, rfl, rfl, hb⟩
      replace W := W.below hb
      clear hb lq q0 q1 q2 q3 RH
      obtain ⟨lp, p0, p1, p2, p3⟩ := HB.dec (t := 25) (g := w.heap.size) (a := .bool false) (b := .int .u64 a) (c := .int .u64 b) (d := .int .i64 s) W (by simp)
      obtain ⟨lq, q0, q1, q2, q3⟩ := HB.dec (t := 25) (g := w.heap.size + 1) (a := .bool true) (b := .int .u64 a') (c := .int .u64 b') (d := .int .i64 s') W (by simp)
      go_wp2_with fail
      rw [show max s s' = s' by omega]
      refine (bothAt_all false a b s true a' b' s' s' _ ha hb1 ha' hb1' h0 h0' hst hst' ht9).mono ?_
      rintro e w3 ⟨_, ⟨x, y, p, x', y', p', SX, SX', rfl⟩, rfl, hb⟩
      replace W := W.below hb
      clear hb lq q0 q1 q2 q3 lp p0 p1 p2 p3
      obtain ⟨rfl, hx, hy, ex⟩ := sz_yes SX HC.out.1
      obtain ⟨rfl, hx', hy', ex'⟩ := sz_yes SX' HC.out.2.1
      have EX := Lib.hid ex
      have EX' := Lib.hid ex'
      clear ex ex' SX SX'
      obtain ⟨lp, p0, p1, p2, p3⟩ := HB.dec (t := 25) (g := w.heap.size) (a := .bool false) (b := .int .u64 a) (c := .int .u64 b) (d := .int .i64 s) W (by simp)
      obtain ⟨lq, q0, q1, q2, q3⟩ := HB.dec (t := 25) (g := w.heap.size + 1) (a := .bool true) (b := .int .u64 a') (c := .int .u64 b') (d := .int .i64 s') W (by simp)
      replace W := (W.push #[.int .u64 x, .int .u64 y] 23).push #[.int .u64 x', .int .u64 y'] 23
      simp only [World.size_alloc] at W
      have hC := HC.out.2.2
      rw [← EX.out, ← EX'.out] at hC
      have hCh := Lib.hid hC
      clear hC
      go_wp2_with fail
      refine (differ_ge false x y x' y' s' _ hx hy hx' hy' hCh.out).mono ?_
      rintro e w5 ⟨_, ⟨m, c, d, q, er, HD, rfl⟩, rfl, hb⟩
      replace W := W.below hb
      clear hb lq q0 q1 q2 q3 lp p0 p1 p2 p3
      rw [EX.out, EX'.out] at HD
      obtain ⟨lq, q0, q1, q2, q3⟩ := HB.dec (t := 25) (g := w.heap.size + 1 + 1) (a := .bool false) (b := .int .u64 0) (c := .int .u64 0) (d := .int .i64 0) W (by simp)
      have Bz := HB.blk (g := w.heap.size + 1 + 1) (t := 25) (cs := #[.bool false, .int .u64 0, .int .u64 0, .int .i64 0]) W (by simp)
      have fz0 := Bz.frozen 0
      have fz1 := Bz.frozen 1
      have fz2 := Bz.frozen 2
      have fz3 := Bz.frozen 3
      clear Bz
      have HB1 := Lib.hid W.1
      clear W
      have HDh := Lib.hid HD
      clear HD
      go_wp2
      exact bodyPost_ret (v := .tuple #[.agg #[.bool m, .int .u64 c, .int .u64 d, .int .i64 q], .int .i64 er]) (by simp [results, Tryz.results6, go_sem, q0, q1, q2, q3]) rfl ⟨_, ⟨_, _, _, _, _, HDh.out, rfl⟩, rfl, bel4 HB1.out hlg⟩
    · have W : HB w [(w.heap.size + 1 + 1, 25, #[.bool false, .int .u64 0, .int .u64 0, .int .i64 0]), (w.heap.size + 1, 25, #[.bool false, .int .u64 a', .int .u64 b', .int .i64 s']), (w.heap.size, 25, #[.bool true, .int .u64 a, .int .u64 b, .int .i64 s])] (((w.alloc (.cells #[.bool true, .int .u64 a, .int .u64 b, .int .i64 s] 25)).alloc (.cells #[.bool false, .int .u64 a', .int .u64 b', .int .i64 s'] 25)).alloc (.cells #[.bool false, .int .u64 0, .int .u64 0, .int .i64 0] 25)) := by
        have h := (((HB.start (Below.refl _ w)).push #[.bool true, .int .u64 a, .int .u64 b, .int .i64 s] 25).push #[.bool false, .int .u64 a', .int .u64 b', .int .i64 s'] 25).push #[.bool false, .int .u64 0, .int .u64 0, .int .i64 0] 25
        simpa using h
      go_enter Tryz.func6, Tryz.ntmps6
      have RC := right_c true a b s (((w.alloc (.cells #[.bool true, .int .u64 a, .int .u64 b, .int .i64 s] 25)).alloc (.cells #[.bool false, .int .u64 a', .int .u64 b', .int .i64 s'] 25)).alloc (.cells #[.bool false, .int .u64 0, .int .u64 0, .int .i64 0] 25)) ha hb1
      rw [HR.out] at RC
      have RH := Lib.hid RC
      clear RC
      go_wp2_with fail
      refine (RH.out).mono ?_
      rintro e w1 ⟨_, rfl, rfl, hb⟩
      replace W := W.below hb
      clear hb RH
      obtain ⟨lq, q0, q1, q2, q3⟩ := HB.dec (t := 25) (g := w.heap.size + 1) (a := .bool false) (b := .int .u64 a') (c := .int .u64 b') (d := .int .i64 s') W (by simp)
      have RC := right_c false a' b' s' w1 ha' hb1'
      rw [HR'.out] at RC
      have RH := Lib.hid RC
      clear RC
      go_wp2_with fail
      refine (RH.out).mono ?_
      rintro e w2 ⟨_, rfl, rfl, hb⟩
      replace W := W.below hb
      clear hb lq q0 q1 q2 q3 RH
      obtain ⟨lp, p0, p1, p2, p3⟩ := HB.dec (t := 25) (g := w.heap.size) (a := .bool true) (b := .int .u64 a) (c := .int .u64 b) (d := .int .i64 s) W (by simp)
      obtain ⟨lq, q0, q1, q2, q3⟩ := HB.dec (t := 25) (g := w.heap.size + 1) (a := .bool false) (b := .int .u64 a') (c := .int .u64 b') (d := .int .i64 s') W (by simp)
      go_wp2_with fail
      rw [show max s s' = s' by omega]
      refine (bothAt_all true a b s false a' b' s' s' _ ha hb1 ha' hb1' h0 h0' hst hst' ht9).mono ?_
      rintro e w3 ⟨_, ⟨x, y, p, x', y', p', SX, SX', rfl⟩, rfl, hb⟩
      replace W := W.below hb
      clear hb lq q0 q1 q2 q3 lp p0 p1 p2 p3
      obtain ⟨rfl, hx, hy, ex⟩ := sz_yes SX HC.out.1
      obtain ⟨rfl, hx', hy', ex'⟩ := sz_yes SX' HC.out.2.1
      have EX := Lib.hid ex
      have EX' := Lib.hid ex'
      clear ex ex' SX SX'
      obtain ⟨lp, p0, p1, p2, p3⟩ := HB.dec (t := 25) (g := w.heap.size) (a := .bool true) (b := .int .u64 a) (c := .int .u64 b) (d := .int .i64 s) W (by simp)
      obtain ⟨lq, q0, q1, q2, q3⟩ := HB.dec (t := 25) (g := w.heap.size + 1) (a := .bool false) (b := .int .u64 a') (c := .int .u64 b') (d := .int .i64 s') W (by simp)
      replace W := (W.push #[.int .u64 x, .int .u64 y] 23).push #[.int .u64 x', .int .u64 y'] 23
      simp only [World.size_alloc] at W
      have hC := HC.out.2.2
      rw [← EX.out, ← EX'.out] at hC
      have hCh := Lib.hid hC
      clear hC
      go_wp2_with fail
      refine (differ_ge true x y x' y' s' _ hx hy hx' hy' hCh.out).mono ?_
      rintro e w5 ⟨_, ⟨m, c, d, q, er, HD, rfl⟩, rfl, hb⟩
      replace W := W.below hb
      clear hb lq q0 q1 q2 q3 lp p0 p1 p2 p3
      rw [EX.out, EX'.out] at HD
      obtain ⟨lq, q0, q1, q2, q3⟩ := HB.dec (t := 25) (g := w.heap.size + 1 + 1) (a := .bool false) (b := .int .u64 0) (c := .int .u64 0) (d := .int .i64 0) W (by simp)
      have Bz := HB.blk (g := w.heap.size + 1 + 1) (t := 25) (cs := #[.bool false, .int .u64 0, .int .u64 0, .int .i64 0]) W (by simp)
      have fz0 := Bz.frozen 0
      have fz1 := Bz.frozen 1
      have fz2 := Bz.frozen 2
      have fz3 := Bz.frozen 3
      clear Bz
      have HB1 := Lib.hid W.1
      clear W
      have HDh := Lib.hid HD
      clear HD
      go_wp2
      exact bodyPost_ret (v := .tuple #[.agg #[.bool m, .int .u64 c, .int .u64 d, .int .i64 q], .int .i64 er]) (by simp [results, Tryz.results6, go_sem, q0, q1, q2, q3]) rfl ⟨_, ⟨_, _, _, _, _, HDh.out, rfl⟩, rfl, bel4 HB1.out hlg⟩
  · rcases hnn with ⟨rfl, rfl⟩ | ⟨rfl, rfl⟩
    · have W : HB w [(w.heap.size + 1 + 1, 25, #[.bool false, .int .u64 0, .int .u64 0, .int .i64 0]), (w.heap.size + 1, 25, #[.bool true, .int .u64 a', .int .u64 b', .int .i64 s']), (w.heap.size, 25, #[.bool false, .int .u64 a, .int .u64 b, .int .i64 s])] (((w.alloc (.cells #[.bool false, .int .u64 a, .int .u64 b, .int .i64 s] 25)).alloc (.cells #[.bool true, .int .u64 a', .int .u64 b', .int .i64 s'] 25)).alloc (.cells #[.bool false, .int .u64 0, .int .u64 0, .int .i64 0] 25)) := by
        have h := (((HB.start (Below.refl _ w)).push #[.bool false, .int .u64 a, .int .u64 b, .int .i64 s] 25).push #[.bool true, .int .u64 a', .int .u64 b', .int .i64 s'] 25).push #[.bool false, .int .u64 0, .int .u64 0, .int .i64 0] 25
        simpa using h
      go_enter Tryz.func6, Tryz.ntmps6
      have RC := right_c false a b s (((w.alloc (.cells #[.bool false, .int .u64 a, .int .u64 b, .int .i64 s] 25)).alloc (.cells #[.bool true, .int .u64 a', .int .u64 b', .int .i64 s'] 25)).alloc (.cells #[.bool false, .int .u64 0, .int .u64 0, .int .i64 0] 25)) ha hb1
      rw [HR.out] at RC
      have RH := Lib.hid RC
      clear RC
      go_wp2_with fail
      refine (RH.out).mono ?_
      rintro e w1 ⟨_, rfl, rfl, hb⟩
      replace W := W.below hb
      clear hb RH
      obtain ⟨lq, q0, q1, q2, q3⟩ := HB.dec (t := 25) (g := w.heap.size + 1) (a := .bool true) (b := .int .u64 a') (c := .int .u64 b') (d := .int .i64 s') W (by simp)
      have RC := right_c true a' b' s' w1 ha' hb1'
      rw [HR'.out] at RC
      have RH := Lib.hid RC
      clear RC
      go_wp2_with fail
      refine (RH.out).mono ?_
      rintro e w2 ⟨_, rfl, rfl, hb⟩
      replace W := W.below hb
      clear hb lq q0 q1 q2 q3 RH
      obtain ⟨lp, p0, p1, p2, p3⟩ := HB.dec (t := 25) (g := w.heap.size) (a := .bool false) (b := .int .u64 a) (c := .int .u64 b) (d := .int .i64 s) W (by simp)
      obtain ⟨lq, q0, q1, q2, q3⟩ := HB.dec (t := 25) (g := w.heap.size + 1) (a := .bool true) (b := .int .u64 a') (c := .int .u64 b') (d := .int .i64 s') W (by simp)
      go_wp2_with fail
      rw [show max s s' = s by omega]
      refine (bothAt_all false a b s true a' b' s' s _ ha hb1 ha' hb1' h0 h0' hst hst' ht9).mono ?_
      rintro e w3 ⟨_, ⟨x, y, p, x', y', p', SX, SX', rfl⟩, rfl, hb⟩
      replace W := W.below hb
      clear hb lq q0 q1 q2 q3 lp p0 p1 p2 p3
      obtain ⟨rfl, hx, hy, ex⟩ := sz_yes SX HC.out.1
      obtain ⟨rfl, hx', hy', ex'⟩ := sz_yes SX' HC.out.2.1
      have EX := Lib.hid ex
      have EX' := Lib.hid ex'
      clear ex ex' SX SX'
      obtain ⟨lp, p0, p1, p2, p3⟩ := HB.dec (t := 25) (g := w.heap.size) (a := .bool false) (b := .int .u64 a) (c := .int .u64 b) (d := .int .i64 s) W (by simp)
      obtain ⟨lq, q0, q1, q2, q3⟩ := HB.dec (t := 25) (g := w.heap.size + 1) (a := .bool true) (b := .int .u64 a') (c := .int .u64 b') (d := .int .i64 s') W (by simp)
      replace W := (W.push #[.int .u64 x, .int .u64 y] 23).push #[.int .u64 x', .int .u64 y'] 23
      simp only [World.size_alloc] at W
      have hC := HC.out.2.2
      rw [← EX.out, ← EX'.out] at hC
      have hCh := Lib.hid hC
      clear hC
      go_wp2_with fail
      refine (differ_ge false x y x' y' s _ hx hy hx' hy' hCh.out).mono ?_
      rintro e w5 ⟨_, ⟨m, c, d, q, er, HD, rfl⟩, rfl, hb⟩
      replace W := W.below hb
      clear hb lq q0 q1 q2 q3 lp p0 p1 p2 p3
      rw [EX.out, EX'.out] at HD
      obtain ⟨lq, q0, q1, q2, q3⟩ := HB.dec (t := 25) (g := w.heap.size + 1 + 1) (a := .bool false) (b := .int .u64 0) (c := .int .u64 0) (d := .int .i64 0) W (by simp)
      have Bz := HB.blk (g := w.heap.size + 1 + 1) (t := 25) (cs := #[.bool false, .int .u64 0, .int .u64 0, .int .i64 0]) W (by simp)
      have fz0 := Bz.frozen 0
      have fz1 := Bz.frozen 1
      have fz2 := Bz.frozen 2
      have fz3 := Bz.frozen 3
      clear Bz
      have HB1 := Lib.hid W.1
      clear W
      have HDh := Lib.hid HD
      clear HD
      go_wp2
      exact bodyPost_ret (v := .tuple #[.agg #[.bool m, .int .u64 c, .int .u64 d, .int .i64 q], .int .i64 er]) (by simp [results, Tryz.results6, go_sem, q0, q1, q2, q3]) rfl ⟨_, ⟨_, _, _, _, _, HDh.out, rfl⟩, rfl, bel4 HB1.out hlg⟩
    · have W : HB w [(w.heap.size + 1 + 1, 25, #[.bool false, .int .u64 0, .int .u64 0, .int .i64 0]), (w.heap.size + 1, 25, #[.bool false, .int .u64 a', .int .u64 b', .int .i64 s']), (w.heap.size, 25, #[.bool true, .int .u64 a, .int .u64 b, .int .i64 s])] (((w.alloc (.cells #[.bool true, .int .u64 a, .int .u64 b, .int .i64 s] 25)).alloc (.cells #[.bool false, .int .u64 a', .int .u64 b', .int .i64 s'] 25)).alloc (.cells #[.bool false, .int .u64 0, .int .u64 0, .int .i64 0] 25)) := by
        have h := (((HB.start (Below.refl _ w)).push #[.bool true, .int .u64 a, .int .u64 b, .int .i64 s] 25).push #[.bool false, .int .u64 a', .int .u64 b', .int .i64 s'] 25).push #[.bool false, .int .u64 0, .int .u64 0, .int .i64 0] 25
        simpa using h
      go_enter Tryz.func6, Tryz.ntmps6
      have RC := right_c true a b s (((w.alloc (.cells #[.bool true, .int .u64 a, .int .u64 b, .int .i64 s] 25)).alloc (.cells #[.bool false, .int .u64 a', .int .u64 b', .int .i64 s'] 25)).alloc (.cells #[.bool false, .int .u64 0, .int .u64 0, .int .i64 0] 25)) ha hb1
      rw [HR.out] at RC
      have RH := Lib.hid RC
      clear RC
      go_wp2_with fail
      refine (RH.out).mono ?_
      rintro e w1 ⟨_, rfl, rfl, hb⟩
      replace W := W.below hb
      clear hb RH
      obtain ⟨lq, q0, q1, q2, q3⟩ := HB.dec (t := 25) (g := w.heap.size + 1) (a := .bool false) (b := .int .u64 a') (c := .int .u64 b') (d := .int .i64 s') W (by simp)
      have RC := right_c false a' b' s' w1 ha' hb1'
      rw [HR'.out] at RC
      have RH := Lib.hid RC
      clear RC
      go_wp2_with fail
      refine (RH.out).mono ?_
      rintro e w2 ⟨_, rfl, rfl, hb⟩
      replace W := W.below hb
      clear hb lq q0 q1 q2 q3 RH
      obtain ⟨lp, p0, p1, p2, p3⟩ := HB.dec (t := 25) (g := w.heap.size) (a := .bool true) (b := .int .u64 a) (c := .int .u64 b) (d := .int .i64 s) W (by simp)
      obtain ⟨lq, q0, q1, q2, q3⟩ := HB.dec (t := 25) (g := w.heap.size + 1) (a := .bool false) (b := .int .u64 a') (c := .int .u64 b') (d := .int .i64 s') W (by simp)
      go_wp2_with fail
      rw [show max s s' = s by omega]
      refine (bothAt_all true a b s false a' b' s' s _ ha hb1 ha' hb1' h0 h0' hst hst' ht9).mono ?_
      rintro e w3 ⟨_, ⟨x, y, p, x', y', p', SX, SX', rfl⟩, rfl, hb⟩
      replace W := W.below hb
      clear hb lq q0 q1 q2 q3 lp p0 p1 p2 p3
      obtain ⟨rfl, hx, hy, ex⟩ := sz_yes SX HC.out.1
      obtain ⟨rfl, hx', hy', ex'⟩ := sz_yes SX' HC.out.2.1
      have EX := Lib.hid ex
      have EX' := Lib.hid ex'
      clear ex ex' SX SX'
      obtain ⟨lp, p0, p1, p2, p3⟩ := HB.dec (t := 25) (g := w.heap.size) (a := .bool true) (b := .int .u64 a) (c := .int .u64 b) (d := .int .i64 s) W (by simp)
      obtain ⟨lq, q0, q1, q2, q3⟩ := HB.dec (t := 25) (g := w.heap.size + 1) (a := .bool false) (b := .int .u64 a') (c := .int .u64 b') (d := .int .i64 s') W (by simp)
      replace W := (W.push #[.int .u64 x, .int .u64 y] 23).push #[.int .u64 x', .int .u64 y'] 23
      simp only [World.size_alloc] at W
      have hC := HC.out.2.2
      rw [← EX.out, ← EX'.out] at hC
      have hCh := Lib.hid hC
      clear hC
      go_wp2_with fail
      refine (differ_ge true x y x' y' s _ hx hy hx' hy' hCh.out).mono ?_
      rintro e w5 ⟨_, ⟨m, c, d, q, er, HD, rfl⟩, rfl, hb⟩
      replace W := W.below hb
      clear hb lq q0 q1 q2 q3 lp p0 p1 p2 p3
      rw [EX.out, EX'.out] at HD
      obtain ⟨lq, q0, q1, q2, q3⟩ := HB.dec (t := 25) (g := w.heap.size + 1 + 1) (a := .bool false) (b := .int .u64 0) (c := .int .u64 0) (d := .int .i64 0) W (by simp)
      have Bz := HB.blk (g := w.heap.size + 1 + 1) (t := 25) (cs := #[.bool false, .int .u64 0, .int .u64 0, .int .i64 0]) W (by simp)
      have fz0 := Bz.frozen 0
      have fz1 := Bz.frozen 1
      have fz2 := Bz.frozen 2
      have fz3 := Bz.frozen 3
      clear Bz
      have HB1 := Lib.hid W.1
      clear W
      have HDh := Lib.hid HD
      clear HD
      go_wp2
      exact bodyPost_ret (v := .tuple #[.agg #[.bool m, .int .u64 c, .int .u64 d, .int .i64 q], .int .i64 er]) (by simp [results, Tryz.results6, go_sem, q0, q1, q2, q3]) rfl ⟨_, ⟨_, _, _, _, _, HDh.out, rfl⟩, rfl, bel4 HB1.out hlg⟩

set_option maxRecDepth 100000 in
set_option maxHeartbeats 1600000 in
theorem addA_lt (n : Bool) (n' : Bool) (hn : n' = !n) (a b s a' b' s' t : Int) (w : World) (ha : U64 a) (hb1 : U64 b) (ha' : U64 a') (hb1' : U64 b') (hr : RightD n a b s) (hr' : RightD n' a' b' s') (ht : (s < s' ∧ s' = t) ∨ (s' ≤ s ∧ s = t)) (hc : upW a b s t < 340282366920938463463374607431768211456 ∧ upW a' b' s' t < 340282366920938463463374607431768211456 ∧ upW a b s t < upW a' b' s' t) :
    Calls Tryz.prog 6 #[.agg #[.bool n, .int .u64 a, .int .u64 b, .int .i64 s], .agg #[.bool n', .int .u64 a', .int .u64 b', .int .i64 s']] w (Ret w (Ans (chkV (!n) (upW a' b' s' t - upW a b s t) t))) := by
  have h0 : 0 ≤ s := hr.2.1
  have h0' : 0 ≤ s' := hr'.2.1
  have h9 : s ≤ 9 := hr.2.2.1
  have h9' : s' ≤ 9 := hr'.2.2.1
  have hnn : (n = false ∧ n' = true) ∨ (n = true ∧ n' = false) := by rw [hn]; cases n <;> simp
  clear hn
  have ht9 : t ≤ 9 := by omega
  have hst : s ≤ t := by omega
  have hst' : s' ≤ t := by omega
  have HR := Lib.hid (decide_eq_true hr)
  have HR' := Lib.hid (decide_eq_true hr')
  have HC := Lib.hid hc
  clear hr hr' hc
  have hlg : w.heap.size ≤ w.heap.size + 1 + 1 := by omega
  rcases ht with ⟨hss, rfl⟩ | ⟨hss, rfl⟩
  · rcases hnn with ⟨rfl, rfl⟩ | ⟨rfl, rfl⟩
    · have W : HB w [(w.heap.size + 1 + 1, 25, #[.bool false, .int .u64 0, .int .u64 0, .int .i64 0]), (w.heap.size + 1, 25, #[.bool true, .int .u64 a', .int .u64 b', .int .i64 s']), (w.heap.size, 25, #[.bool false, .int .u64 a, .int .u64 b, .int .i64 s])] (((w.alloc (.cells #[.bool false, .int .u64 a, .int .u64 b, .int .i64 s] 25)).alloc (.cells #[.bool true, .int .u64 a', .int .u64 b', .int .i64 s'] 25)).alloc (.cells #[.bool false, .int .u64 0, .int .u64 0, .int .i64 0] 25)) := by
        have h := (((HB.start (Below.refl _ w)).push #[.bool false, .int .u64 a, .int .u64 b, .int .i64 s] 25).push #[.bool true, .int .u64 a', .int .u64 b', .int .i64 s'] 25).push #[.bool false, .int .u64 0, .int .u64 0, .int .i64 0] 25
        simpa using h
      go_enter Tryz.func6, Tryz.ntmps6
      have RC := right_c false a b s (((w.alloc (.cells #[.bool false, .int .u64 a, .int .u64 b, .int .i64 s] 25)).alloc (.cells #[.bool true, .int .u64 a', .int .u64 b', .int .i64 s'] 25)).alloc (.cells #[.bool false, .int .u64 0, .int .u64 0, .int .i64 0] 25)) ha hb1
      rw [HR.out] at RC
      have RH := Lib.hid RC
      clear RC
      go_wp2_with fail
      refine (RH.out).mono ?_
      rintro e w1 ⟨_, rfl, rfl, hb⟩
      replace W := W.below hb
      clear hb RH
      obtain ⟨lq, q0, q1, q2, q3⟩ := HB.dec (t := 25) (g := w.heap.size + 1) (a := .bool true) (b := .int .u64 a') (c := .int .u64 b') (d := .int .i64 s') W (by simp)
      have RC := right_c true a' b' s' w1 ha' hb1'
      rw [HR'.out] at RC
      have RH := Lib.hid RC
      clear RC
      go_wp2_with fail
      refine (RH.out).mono ?_
      rintro e w2 ⟨_, rfl, rfl, hb⟩
      replace W := W.below hb
      clear hb lq q0 q1 q2 q3 RH
      obtain ⟨lp, p0, p1, p2, p3⟩ := HB.dec (t := 25) (g := w.heap.size) (a := .bool false) (b := .int .u64 a) (c := .int .u64 b) (d := .int .i64 s) W (by simp)
      obtain ⟨lq, q0, q1, q2, q3⟩ := HB.dec (t := 25) (g := w.heap.size + 1) (a := .bool true) (b := .int .u64 a') (c := .int .u64 b') (d := .int .i64 s') W (by simp)
      go_wp2_with fail
      rw [show max s s' = s' by omega]
      refine (bothAt_all false a b s true a' b' s' s' _ ha hb1 ha' hb1' h0 h0' hst hst' ht9).mono ?_
      rintro e w3 ⟨_, ⟨x, y, p, x', y', p', SX, SX', rfl⟩, rfl, hb⟩
      replace W := W.below hb
      clear hb lq q0 q1 q2 q3 lp p0 p1 p2 p3
      obtain ⟨rfl, hx, hy, ex⟩ := sz_yes SX HC.out.1
      obtain ⟨rfl, hx', hy', ex'⟩ := sz_yes SX' HC.out.2.1
      have EX := Lib.hid ex
      have EX' := Lib.hid ex'
      clear ex ex' SX SX'
      obtain ⟨lp, p0, p1, p2, p3⟩ := HB.dec (t := 25) (g := w.heap.size) (a := .bool false) (b := .int .u64 a) (c := .int .u64 b) (d := .int .i64 s) W (by simp)
      obtain ⟨lq, q0, q1, q2, q3⟩ := HB.dec (t := 25) (g := w.heap.size + 1) (a := .bool true) (b := .int .u64 a') (c := .int .u64 b') (d := .int .i64 s') W (by simp)
      replace W := (W.push #[.int .u64 x, .int .u64 y] 23).push #[.int .u64 x', .int .u64 y'] 23
      simp only [World.size_alloc] at W
      have hC := HC.out.2.2
      rw [← EX.out, ← EX'.out] at hC
      have hCh := Lib.hid hC
      clear hC
      go_wp2_with fail
      refine (differ_lt false x y x' y' s' _ hx hy hx' hy' hCh.out).mono ?_
      rintro e w5 ⟨_, ⟨m, c, d, q, er, HD, rfl⟩, rfl, hb⟩
      replace W := W.below hb
      clear hb lq q0 q1 q2 q3 lp p0 p1 p2 p3
      rw [EX.out, EX'.out] at HD
      obtain ⟨lq, q0, q1, q2, q3⟩ := HB.dec (t := 25) (g := w.heap.size + 1 + 1) (a := .bool false) (b := .int .u64 0) (c := .int .u64 0) (d := .int .i64 0) W (by simp)
      have Bz := HB.blk (g := w.heap.size + 1 + 1) (t := 25) (cs := #[.bool false, .int .u64 0, .int .u64 0, .int .i64 0]) W (by simp)
      have fz0 := Bz.frozen 0
      have fz1 := Bz.frozen 1
      have fz2 := Bz.frozen 2
      have fz3 := Bz.frozen 3
      clear Bz
      have HB1 := Lib.hid W.1
      clear W
      have HDh := Lib.hid HD
      clear HD
      go_wp2
      exact bodyPost_ret (v := .tuple #[.agg #[.bool m, .int .u64 c, .int .u64 d, .int .i64 q], .int .i64 er]) (by simp [results, Tryz.results6, go_sem, q0, q1, q2, q3]) rfl ⟨_, ⟨_, _, _, _, _, HDh.out, rfl⟩, rfl, bel4 HB1.out hlg⟩
    · have W : HB w [(w.heap.size + 1 + 1, 25, #[.bool false, .int .u64 0, .int .u64 0, .int .i64 0]), (w.heap.size + 1, 25, #[.bool false, .int .u64 a', .int .u64 b', .int .i64 s']), (w.heap.size, 25, #[.bool true, .int .u64 a, .int .u64 b, .int .i64 s])] (((w.alloc (.cells #[.bool true, .int .u64 a, .int .u64 b, .int .i64 s] 25)).alloc (.cells #[.bool false, .int .u64 a', .int .u64 b', .int .i64 s'] 25)).alloc (.cells #[.bool false, .int .u64 0, .int .u64 0, .int .i64 0] 25)) := by
        have h := (((HB.start (Below.refl _ w)).push #[.bool true, .int .u64 a, .int .u64 b, .int .i64 s] 25).push #[.bool false, .int .u64 a', .int .u64 b', .int .i64 s'] 25).push #[.bool false, .int .u64 0, .int .u64 0, .int .i64 0] 25
        simpa using h
      go_enter Tryz.func6, Tryz.ntmps6
      have RC := right_c true a b s (((w.alloc (.cells #[.bool true, .int .u64 a, .int .u64 b, .int .i64 s] 25)).alloc (.cells #[.bool false, .int .u64 a', .int .u64 b', .int .i64 s'] 25)).alloc (.cells #[.bool false, .int .u64 0, .int .u64 0, .int .i64 0] 25)) ha hb1
      rw [HR.out] at RC
      have RH := Lib.hid RC
      clear RC
      go_wp2_with fail
      refine (RH.out).mono ?_
      rintro e w1 ⟨_, rfl, rfl, hb⟩
      replace W := W.below hb
      clear hb RH
      obtain ⟨lq, q0, q1, q2, q3⟩ := HB.dec (t := 25) (g := w.heap.size + 1) (a := .bool false) (b := .int .u64 a') (c := .int .u64 b') (d := .int .i64 s') W (by simp)
      have RC := right_c false a' b' s' w1 ha' hb1'
      rw [HR'.out] at RC
      have RH := Lib.hid RC
      clear RC
      go_wp2_with fail
      refine (RH.out).mono ?_
      rintro e w2 ⟨_, rfl, rfl, hb⟩
      replace W := W.below hb
      clear hb lq q0 q1 q2 q3 RH
      obtain ⟨lp, p0, p1, p2, p3⟩ := HB.dec (t := 25) (g := w.heap.size) (a := .bool true) (b := .int .u64 a) (c := .int .u64 b) (d := .int .i64 s) W (by simp)
      obtain ⟨lq, q0, q1, q2, q3⟩ := HB.dec (t := 25) (g := w.heap.size + 1) (a := .bool false) (b := .int .u64 a') (c := .int .u64 b') (d := .int .i64 s') W (by simp)
      go_wp2_with fail
      rw [show max s s' = s' by omega]
      refine (bothAt_all true a b s false a' b' s' s' _ ha hb1 ha' hb1' h0 h0' hst hst' ht9).mono ?_
      rintro e w3 ⟨_, ⟨x, y, p, x', y', p', SX, SX', rfl⟩, rfl, hb⟩
      replace W := W.below hb
      clear hb lq q0 q1 q2 q3 lp p0 p1 p2 p3
      obtain ⟨rfl, hx, hy, ex⟩ := sz_yes SX HC.out.1
      obtain ⟨rfl, hx', hy', ex'⟩ := sz_yes SX' HC.out.2.1
      have EX := Lib.hid ex
      have EX' := Lib.hid ex'
      clear ex ex' SX SX'
      obtain ⟨lp, p0, p1, p2, p3⟩ := HB.dec (t := 25) (g := w.heap.size) (a := .bool true) (b := .int .u64 a) (c := .int .u64 b) (d := .int .i64 s) W (by simp)
      obtain ⟨lq, q0, q1, q2, q3⟩ := HB.dec (t := 25) (g := w.heap.size + 1) (a := .bool false) (b := .int .u64 a') (c := .int .u64 b') (d := .int .i64 s') W (by simp)
      replace W := (W.push #[.int .u64 x, .int .u64 y] 23).push #[.int .u64 x', .int .u64 y'] 23
      simp only [World.size_alloc] at W
      have hC := HC.out.2.2
      rw [← EX.out, ← EX'.out] at hC
      have hCh := Lib.hid hC
      clear hC
      go_wp2_with fail
      refine (differ_lt true x y x' y' s' _ hx hy hx' hy' hCh.out).mono ?_
      rintro e w5 ⟨_, ⟨m, c, d, q, er, HD, rfl⟩, rfl, hb⟩
      replace W := W.below hb
      clear hb lq q0 q1 q2 q3 lp p0 p1 p2 p3
      rw [EX.out, EX'.out] at HD
      obtain ⟨lq, q0, q1, q2, q3⟩ := HB.dec (t := 25) (g := w.heap.size + 1 + 1) (a := .bool false) (b := .int .u64 0) (c := .int .u64 0) (d := .int .i64 0) W (by simp)
      have Bz := HB.blk (g := w.heap.size + 1 + 1) (t := 25) (cs := #[.bool false, .int .u64 0, .int .u64 0, .int .i64 0]) W (by simp)
      have fz0 := Bz.frozen 0
      have fz1 := Bz.frozen 1
      have fz2 := Bz.frozen 2
      have fz3 := Bz.frozen 3
      clear Bz
      have HB1 := Lib.hid W.1
      clear W
      have HDh := Lib.hid HD
      clear HD
      go_wp2
      exact bodyPost_ret (v := .tuple #[.agg #[.bool m, .int .u64 c, .int .u64 d, .int .i64 q], .int .i64 er]) (by simp [results, Tryz.results6, go_sem, q0, q1, q2, q3]) rfl ⟨_, ⟨_, _, _, _, _, HDh.out, rfl⟩, rfl, bel4 HB1.out hlg⟩
  · rcases hnn with ⟨rfl, rfl⟩ | ⟨rfl, rfl⟩
    · have W : HB w [(w.heap.size + 1 + 1, 25, #[.bool false, .int .u64 0, .int .u64 0, .int .i64 0]), (w.heap.size + 1, 25, #[.bool true, .int .u64 a', .int .u64 b', .int .i64 s']), (w.heap.size, 25, #[.bool false, .int .u64 a, .int .u64 b, .int .i64 s])] (((w.alloc (.cells #[.bool false, .int .u64 a, .int .u64 b, .int .i64 s] 25)).alloc (.cells #[.bool true, .int .u64 a', .int .u64 b', .int .i64 s'] 25)).alloc (.cells #[.bool false, .int .u64 0, .int .u64 0, .int .i64 0] 25)) := by
        have h := (((HB.start (Below.refl _ w)).push #[.bool false, .int .u64 a, .int .u64 b, .int .i64 s] 25).push #[.bool true, .int .u64 a', .int .u64 b', .int .i64 s'] 25).push #[.bool false, .int .u64 0, .int .u64 0, .int .i64 0] 25
        simpa using h
      go_enter Tryz.func6, Tryz.ntmps6
      have RC := right_c false a b s (((w.alloc (.cells #[.bool false, .int .u64 a, .int .u64 b, .int .i64 s] 25)).alloc (.cells #[.bool true, .int .u64 a', .int .u64 b', .int .i64 s'] 25)).alloc (.cells #[.bool false, .int .u64 0, .int .u64 0, .int .i64 0] 25)) ha hb1
      rw [HR.out] at RC
      have RH := Lib.hid RC
      clear RC
      go_wp2_with fail
      refine (RH.out).mono ?_
      rintro e w1 ⟨_, rfl, rfl, hb⟩
      replace W := W.below hb
      clear hb RH
      obtain ⟨lq, q0, q1, q2, q3⟩ := HB.dec (t := 25) (g := w.heap.size + 1) (a := .bool true) (b := .int .u64 a') (c := .int .u64 b') (d := .int .i64 s') W (by simp)
      have RC := right_c true a' b' s' w1 ha' hb1'
      rw [HR'.out] at RC
      have RH := Lib.hid RC
      clear RC
      go_wp2_with fail
      refine (RH.out).mono ?_
      rintro e w2 ⟨_, rfl, rfl, hb⟩
      replace W := W.below hb
      clear hb lq q0 q1 q2 q3 RH
      obtain ⟨lp, p0, p1, p2, p3⟩ := HB.dec (t := 25) (g := w.heap.size) (a := .bool false) (b := .int .u64 a) (c := .int .u64 b) (d := .int .i64 s) W (by simp)
      obtain ⟨lq, q0, q1, q2, q3⟩ := HB.dec (t := 25) (g := w.heap.size + 1) (a := .bool true) (b := .int .u64 a') (c := .int .u64 b') (d := .int .i64 s') W (by simp)
      go_wp2_with fail
      rw [show max s s' = s by omega]
      refine (bothAt_all false a b s true a' b' s' s _ ha hb1 ha' hb1' h0 h0' hst hst' ht9).mono ?_
      rintro e w3 ⟨_, ⟨x, y, p, x', y', p', SX, SX', rfl⟩, rfl, hb⟩
      replace W := W.below hb
      clear hb lq q0 q1 q2 q3 lp p0 p1 p2 p3
      obtain ⟨rfl, hx, hy, ex⟩ := sz_yes SX HC.out.1
      obtain ⟨rfl, hx', hy', ex'⟩ := sz_yes SX' HC.out.2.1
      have EX := Lib.hid ex
      have EX' := Lib.hid ex'
      clear ex ex' SX SX'
      obtain ⟨lp, p0, p1, p2, p3⟩ := HB.dec (t := 25) (g := w.heap.size) (a := .bool false) (b := .int .u64 a) (c := .int .u64 b) (d := .int .i64 s) W (by simp)
      obtain ⟨lq, q0, q1, q2, q3⟩ := HB.dec (t := 25) (g := w.heap.size + 1) (a := .bool true) (b := .int .u64 a') (c := .int .u64 b') (d := .int .i64 s') W (by simp)
      replace W := (W.push #[.int .u64 x, .int .u64 y] 23).push #[.int .u64 x', .int .u64 y'] 23
      simp only [World.size_alloc] at W
      have hC := HC.out.2.2
      rw [← EX.out, ← EX'.out] at hC
      have hCh := Lib.hid hC
      clear hC
      go_wp2_with fail
      refine (differ_lt false x y x' y' s _ hx hy hx' hy' hCh.out).mono ?_
      rintro e w5 ⟨_, ⟨m, c, d, q, er, HD, rfl⟩, rfl, hb⟩
      replace W := W.below hb
      clear hb lq q0 q1 q2 q3 lp p0 p1 p2 p3
      rw [EX.out, EX'.out] at HD
      obtain ⟨lq, q0, q1, q2, q3⟩ := HB.dec (t := 25) (g := w.heap.size + 1 + 1) (a := .bool false) (b := .int .u64 0) (c := .int .u64 0) (d := .int .i64 0) W (by simp)
      have Bz := HB.blk (g := w.heap.size + 1 + 1) (t := 25) (cs := #[.bool false, .int .u64 0, .int .u64 0, .int .i64 0]) W (by simp)
      have fz0 := Bz.frozen 0
      have fz1 := Bz.frozen 1
      have fz2 := Bz.frozen 2
      have fz3 := Bz.frozen 3
      clear Bz
      have HB1 := Lib.hid W.1
      clear W
      have HDh := Lib.hid HD
      clear HD
      go_wp2
      exact bodyPost_ret (v := .tuple #[.agg #[.bool m, .int .u64 c, .int .u64 d, .int .i64 q], .int .i64 er]) (by simp [results, Tryz.results6, go_sem, q0, q1, q2, q3]) rfl ⟨_, ⟨_, _, _, _, _, HDh.out, rfl⟩, rfl, bel4 HB1.out hlg⟩
    · have W : HB w [(w.heap.size + 1 + 1, 25, #[.bool false, .int .u64 0, .int .u64 0, .int .i64 0]), (w.heap.size + 1, 25, #[.bool false, .int .u64 a', .int .u64 b', .int .i64 s']), (w.heap.size, 25, #[.bool true, .int .u64 a, .int .u64 b, .int .i64 s])] (((w.alloc (.cells #[.bool true, .int .u64 a, .int .u64 b, .int .i64 s] 25)).alloc (.cells #[.bool false, .int .u64 a', .int .u64 b', .int .i64 s'] 25)).alloc (.cells #[.bool false, .int .u64 0, .int .u64 0, .int .i64 0] 25)) := by
        have h := (((HB.start (Below.refl _ w)).push #[.bool true, .int .u64 a, .int .u64 b, .int .i64 s] 25).push #[.bool false, .int .u64 a', .int .u64 b', .int .i64 s'] 25).push #[.bool false, .int .u64 0, .int .u64 0, .int .i64 0] 25
        simpa using h
      go_enter Tryz.func6, Tryz.ntmps6
      have RC := right_c true a b s (((w.alloc (.cells #[.bool true, .int .u64 a, .int .u64 b, .int .i64 s] 25)).alloc (.cells #[.bool false, .int .u64 a', .int .u64 b', .int .i64 s'] 25)).alloc (.cells #[.bool false, .int .u64 0, .int .u64 0, .int .i64 0] 25)) ha hb1
      rw [HR.out] at RC
      have RH := Lib.hid RC
      clear RC
      go_wp2_with fail
      refine (RH.out).mono ?_
      rintro e w1 ⟨_, rfl, rfl, hb⟩
      replace W := W.below hb
      clear hb RH
      obtain ⟨lq, q0, q1, q2, q3⟩ := HB.dec (t := 25) (g := w.heap.size + 1) (a := .bool false) (b := .int .u64 a') (c := .int .u64 b') (d := .int .i64 s') W (by simp)
      have RC := right_c false a' b' s' w1 ha' hb1'
      rw [HR'.out] at RC
      have RH := Lib.hid RC
      clear RC
      go_wp2_with fail
      refine (RH.out).mono ?_
      rintro e w2 ⟨_, rfl, rfl, hb⟩
      replace W := W.below hb
      clear hb lq q0 q1 q2 q3 RH
      obtain ⟨lp, p0, p1, p2, p3⟩ := HB.dec (t := 25) (g := w.heap.size) (a := .bool true) (b := .int .u64 a) (c := .int .u64 b) (d := .int .i64 s) W (by simp)
      obtain ⟨lq, q0, q1, q2, q3⟩ := HB.dec (t := 25) (g := w.heap.size + 1) (a := .bool false) (b := .int .u64 a') (c := .int .u64 b') (d := .int .i64 s') W (by simp)
      go_wp2_with fail
      rw [show max s s' = s by omega]
      refine (bothAt_all true a b s false a' b' s' s _ ha hb1 ha' hb1' h0 h0' hst hst' ht9).mono ?_
      rintro e w3 ⟨_, ⟨x, y, p, x', y', p', SX, SX', rfl⟩, rfl, hb⟩
      replace W := W.below hb
      clear hb lq q0 q1 q2 q3 lp p0 p1 p2 p3
      obtain ⟨rfl, hx, hy, ex⟩ := sz_yes SX HC.out.1
      obtain ⟨rfl, hx', hy', ex'⟩ := sz_yes SX' HC.out.2.1
      have EX := Lib.hid ex
      have EX' := Lib.hid ex'
      clear ex ex' SX SX'
      obtain ⟨lp, p0, p1, p2, p3⟩ := HB.dec (t := 25) (g := w.heap.size) (a := .bool true) (b := .int .u64 a) (c := .int .u64 b) (d := .int .i64 s) W (by simp)
      obtain ⟨lq, q0, q1, q2, q3⟩ := HB.dec (t := 25) (g := w.heap.size + 1) (a := .bool false) (b := .int .u64 a') (c := .int .u64 b') (d := .int .i64 s') W (by simp)
      replace W := (W.push #[.int .u64 x, .int .u64 y] 23).push #[.int .u64 x', .int .u64 y'] 23
      simp only [World.size_alloc] at W
      have hC := HC.out.2.2
      rw [← EX.out, ← EX'.out] at hC
      have hCh := Lib.hid hC
      clear hC
      go_wp2_with fail
      refine (differ_lt true x y x' y' s _ hx hy hx' hy' hCh.out).mono ?_
      rintro e w5 ⟨_, ⟨m, c, d, q, er, HD, rfl⟩, rfl, hb⟩
      replace W := W.below hb
      clear hb lq q0 q1 q2 q3 lp p0 p1 p2 p3
      rw [EX.out, EX'.out] at HD
      obtain ⟨lq, q0, q1, q2, q3⟩ := HB.dec (t := 25) (g := w.heap.size + 1 + 1) (a := .bool false) (b := .int .u64 0) (c := .int .u64 0) (d := .int .i64 0) W (by simp)
      have Bz := HB.blk (g := w.heap.size + 1 + 1) (t := 25) (cs := #[.bool false, .int .u64 0, .int .u64 0, .int .i64 0]) W (by simp)
      have fz0 := Bz.frozen 0
      have fz1 := Bz.frozen 1
      have fz2 := Bz.frozen 2
      have fz3 := Bz.frozen 3
      clear Bz
      have HB1 := Lib.hid W.1
      clear W
      have HDh := Lib.hid HD
      clear HD
      go_wp2
      exact bodyPost_ret (v := .tuple #[.agg #[.bool m, .int .u64 c, .int .u64 d, .int .i64 q], .int .i64 er]) (by simp [results, Tryz.results6, go_sem, q0, q1, q2, q3]) rfl ⟨_, ⟨_, _, _, _, _, HDh.out, rfl⟩, rfl, bel4 HB1.out hlg⟩

set_option maxRecDepth 100000 in
set_option maxHeartbeats 1600000 in
theorem addA_noroom (n : Bool) (n' : Bool) (a b s a' b' s' t : Int) (w : World) (ha : U64 a) (hb1 : U64 b) (ha' : U64 a') (hb1' : U64 b') (hr : RightD n a b s) (hr' : RightD n' a' b' s') (ht : (s < s' ∧ s' = t) ∨ (s' ≤ s ∧ s = t)) (hc : 340282366920938463463374607431768211456 ≤ upW a b s t ∨ 340282366920938463463374607431768211456 ≤ upW a' b' s' t) :
    Calls Tryz.prog 6 #[.agg #[.bool n, .int .u64 a, .int .u64 b, .int .i64 s], .agg #[.bool n', .int .u64 a', .int .u64 b', .int .i64 s']] w (Ret w (Ans (errV 3))) := by
  have h0 : 0 ≤ s := hr.2.1
  have h0' : 0 ≤ s' := hr'.2.1
  have h9 : s ≤ 9 := hr.2.2.1
  have h9' : s' ≤ 9 := hr'.2.2.1
  have ht9 : t ≤ 9 := by omega
  have hst : s ≤ t := by omega
  have hst' : s' ≤ t := by omega
  have HR := Lib.hid (decide_eq_true hr)
  have HR' := Lib.hid (decide_eq_true hr')
  have HC := Lib.hid hc
  clear hr hr' hc
  have hlg : w.heap.size ≤ w.heap.size + 1 + 1 := by omega
  rcases ht with ⟨hss, rfl⟩ | ⟨hss, rfl⟩
  · have hdum : True := trivial
    have W : HB w [(w.heap.size + 1 + 1, 25, #[.bool false, .int .u64 0, .int .u64 0, .int .i64 0]), (w.heap.size + 1, 25, #[.bool n', .int .u64 a', .int .u64 b', .int .i64 s']), (w.heap.size, 25, #[.bool n, .int .u64 a, .int .u64 b, .int .i64 s])] (((w.alloc (.cells #[.bool n, .int .u64 a, .int .u64 b, .int .i64 s] 25)).alloc (.cells #[.bool n', .int .u64 a', .int .u64 b', .int .i64 s'] 25)).alloc (.cells #[.bool false, .int .u64 0, .int .u64 0, .int .i64 0] 25)) := by
      have h := (((HB.start (Below.refl _ w)).push #[.bool n, .int .u64 a, .int .u64 b, .int .i64 s] 25).push #[.bool n', .int .u64 a', .int .u64 b', .int .i64 s'] 25).push #[.bool false, .int .u64 0, .int .u64 0, .int .i64 0] 25
      simpa using h
    go_enter Tryz.func6, Tryz.ntmps6
    have RC := right_c n a b s (((w.alloc (.cells #[.bool n, .int .u64 a, .int .u64 b, .int .i64 s] 25)).alloc (.cells #[.bool n', .int .u64 a', .int .u64 b', .int .i64 s'] 25)).alloc (.cells #[.bool false, .int .u64 0, .int .u64 0, .int .i64 0] 25)) ha hb1
    rw [HR.out] at RC
    have RH := Lib.hid RC
    clear RC
    go_wp2_with fail
    refine (RH.out).mono ?_
    rintro e w1 ⟨_, rfl, rfl, hb⟩
    replace W := W.below hb
    clear hb RH
    obtain ⟨lq, q0, q1, q2, q3⟩ := HB.dec (t := 25) (g := w.heap.size + 1) (a := .bool n') (b := .int .u64 a') (c := .int .u64 b') (d := .int .i64 s') W (by simp)
    have RC := right_c n' a' b' s' w1 ha' hb1'
    rw [HR'.out] at RC
    have RH := Lib.hid RC
    clear RC
    go_wp2_with fail
    refine (RH.out).mono ?_
    rintro e w2 ⟨_, rfl, rfl, hb⟩
    replace W := W.below hb
    clear hb lq q0 q1 q2 q3 RH
    obtain ⟨lp, p0, p1, p2, p3⟩ := HB.dec (t := 25) (g := w.heap.size) (a := .bool n) (b := .int .u64 a) (c := .int .u64 b) (d := .int .i64 s) W (by simp)
    obtain ⟨lq, q0, q1, q2, q3⟩ := HB.dec (t := 25) (g := w.heap.size + 1) (a := .bool n') (b := .int .u64 a') (c := .int .u64 b') (d := .int .i64 s') W (by simp)
    go_wp2_with fail
    rw [show max s s' = s' by omega]
    refine (bothAt_all n a b s n' a' b' s' s' _ ha hb1 ha' hb1' h0 h0' hst hst' ht9).mono ?_
    rintro e w3 ⟨_, ⟨x, y, p, x', y', p', SX, SX', rfl⟩, rfl, hb⟩
    replace W := W.below hb
    clear hb lq q0 q1 q2 q3 lp p0 p1 p2 p3
    have hpp : (p && p') = false := by
      rcases HC.out with h | h
      · rw [sz_no SX h]; rfl
      · rw [sz_no SX' h]; cases p <;> rfl
    clear SX SX'
    replace W := (W.push #[.int .u64 x, .int .u64 y] 23).push #[.int .u64 x', .int .u64 y'] 23
    simp only [World.size_alloc] at W
    obtain ⟨lq, q0, q1, q2, q3⟩ := HB.dec (t := 25) (g := w.heap.size + 1 + 1) (a := .bool false) (b := .int .u64 0) (c := .int .u64 0) (d := .int .i64 0) W (by simp)
    have Bz := HB.blk (g := w.heap.size + 1 + 1) (t := 25) (cs := #[.bool false, .int .u64 0, .int .u64 0, .int .i64 0]) W (by simp)
    have fz0 := Bz.frozen 0
    have fz1 := Bz.frozen 1
    have fz2 := Bz.frozen 2
    have fz3 := Bz.frozen 3
    clear Bz
    have HB1 := Lib.hid W.1
    clear W
    go_wp2
    exact bodyPost_ret (v := .tuple #[.agg #[.bool false, .int .u64 0, .int .u64 0, .int .i64 0], .int .i64 3]) (by simp [results, Tryz.results6, go_sem, q0, q1, q2, q3]) rfl ⟨_, ans_err 3, rfl, bel4 HB1.out hlg⟩
  · have hdum : True := trivial
    have W : HB w [(w.heap.size + 1 + 1, 25, #[.bool false, .int .u64 0, .int .u64 0, .int .i64 0]), (w.heap.size + 1, 25, #[.bool n', .int .u64 a', .int .u64 b', .int .i64 s']), (w.heap.size, 25, #[.bool n, .int .u64 a, .int .u64 b, .int .i64 s])] (((w.alloc (.cells #[.bool n, .int .u64 a, .int .u64 b, .int .i64 s] 25)).alloc (.cells #[.bool n', .int .u64 a', .int .u64 b', .int .i64 s'] 25)).alloc (.cells #[.bool false, .int .u64 0, .int .u64 0, .int .i64 0] 25)) := by
      have h := (((HB.start (Below.refl _ w)).push #[.bool n, .int .u64 a, .int .u64 b, .int .i64 s] 25).push #[.bool n', .int .u64 a', .int .u64 b', .int .i64 s'] 25).push #[.bool false, .int .u64 0, .int .u64 0, .int .i64 0] 25
      simpa using h
    go_enter Tryz.func6, Tryz.ntmps6
    have RC := right_c n a b s (((w.alloc (.cells #[.bool n, .int .u64 a, .int .u64 b, .int .i64 s] 25)).alloc (.cells #[.bool n', .int .u64 a', .int .u64 b', .int .i64 s'] 25)).alloc (.cells #[.bool false, .int .u64 0, .int .u64 0, .int .i64 0] 25)) ha hb1
    rw [HR.out] at RC
    have RH := Lib.hid RC
    clear RC
    go_wp2_with fail
    refine (RH.out).mono ?_
    rintro e w1 ⟨_, rfl, rfl, hb⟩
    replace W := W.below hb
    clear hb RH
    obtain ⟨lq, q0, q1, q2, q3⟩ := HB.dec (t := 25) (g := w.heap.size + 1) (a := .bool n') (b := .int .u64 a') (c := .int .u64 b') (d := .int .i64 s') W (by simp)
    have RC := right_c n' a' b' s' w1 ha' hb1'
    rw [HR'.out] at RC
    have RH := Lib.hid RC
    clear RC
    go_wp2_with fail
    refine (RH.out).mono ?_
    rintro e w2 ⟨_, rfl, rfl, hb⟩
    replace W := W.below hb
    clear hb lq q0 q1 q2 q3 RH
    obtain ⟨lp, p0, p1, p2, p3⟩ := HB.dec (t := 25) (g := w.heap.size) (a := .bool n) (b := .int .u64 a) (c := .int .u64 b) (d := .int .i64 s) W (by simp)
    obtain ⟨lq, q0, q1, q2, q3⟩ := HB.dec (t := 25) (g := w.heap.size + 1) (a := .bool n') (b := .int .u64 a') (c := .int .u64 b') (d := .int .i64 s') W (by simp)
    go_wp2_with fail
    rw [show max s s' = s by omega]
    refine (bothAt_all n a b s n' a' b' s' s _ ha hb1 ha' hb1' h0 h0' hst hst' ht9).mono ?_
    rintro e w3 ⟨_, ⟨x, y, p, x', y', p', SX, SX', rfl⟩, rfl, hb⟩
    replace W := W.below hb
    clear hb lq q0 q1 q2 q3 lp p0 p1 p2 p3
    have hpp : (p && p') = false := by
      rcases HC.out with h | h
      · rw [sz_no SX h]; rfl
      · rw [sz_no SX' h]; cases p <;> rfl
    clear SX SX'
    replace W := (W.push #[.int .u64 x, .int .u64 y] 23).push #[.int .u64 x', .int .u64 y'] 23
    simp only [World.size_alloc] at W
    obtain ⟨lq, q0, q1, q2, q3⟩ := HB.dec (t := 25) (g := w.heap.size + 1 + 1) (a := .bool false) (b := .int .u64 0) (c := .int .u64 0) (d := .int .i64 0) W (by simp)
    have Bz := HB.blk (g := w.heap.size + 1 + 1) (t := 25) (cs := #[.bool false, .int .u64 0, .int .u64 0, .int .i64 0]) W (by simp)
    have fz0 := Bz.frozen 0
    have fz1 := Bz.frozen 1
    have fz2 := Bz.frozen 2
    have fz3 := Bz.frozen 3
    clear Bz
    have HB1 := Lib.hid W.1
    clear W
    go_wp2
    exact bodyPost_ret (v := .tuple #[.agg #[.bool false, .int .u64 0, .int .u64 0, .int .i64 0], .int .i64 3]) (by simp [results, Tryz.results6, go_sem, q0, q1, q2, q3]) rfl ⟨_, ans_err 3, rfl, bel4 HB1.out hlg⟩

set_option maxRecDepth 100000 in
set_option maxHeartbeats 1600000 in
theorem addN_a (n : Bool) (a b s : Int) (n' : Bool) (a' b' s' : Int) (w : World) (ha : U64 a) (hb1 : U64 b) (hr : ¬ RightD n a b s) :
    Calls Tryz.prog 6 #[.agg #[.bool n, .int .u64 a, .int .u64 b, .int .i64 s], .agg #[.bool n', .int .u64 a', .int .u64 b', .int .i64 s']] w (Ret w (Ans (errV 1))) := by
  have HR := Lib.hid (decide_eq_false hr)
  clear hr
  have hlg : w.heap.size ≤ w.heap.size + 1 + 1 := by omega
  have W : HB w [(w.heap.size + 1 + 1, 25, #[.bool false, .int .u64 0, .int .u64 0, .int .i64 0]), (w.heap.size + 1, 25, #[.bool n', .int .u64 a', .int .u64 b', .int .i64 s']), (w.heap.size, 25, #[.bool n, .int .u64 a, .int .u64 b, .int .i64 s])] (((w.alloc (.cells #[.bool n, .int .u64 a, .int .u64 b, .int .i64 s] 25)).alloc (.cells #[.bool n', .int .u64 a', .int .u64 b', .int .i64 s'] 25)).alloc (.cells #[.bool false, .int .u64 0, .int .u64 0, .int .i64 0] 25)) := by
    have h := (((HB.start (Below.refl _ w)).push #[.bool n, .int .u64 a, .int .u64 b, .int .i64 s] 25).push #[.bool n', .int .u64 a', .int .u64 b', .int .i64 s'] 25).push #[.bool false, .int .u64 0, .int .u64 0, .int .i64 0] 25
    simpa using h
  go_enter Tryz.func6, Tryz.ntmps6
  have RC := right_c n a b s (((w.alloc (.cells #[.bool n, .int .u64 a, .int .u64 b, .int .i64 s] 25)).alloc (.cells #[.bool n', .int .u64 a', .int .u64 b', .int .i64 s'] 25)).alloc (.cells #[.bool false, .int .u64 0, .int .u64 0, .int .i64 0] 25)) ha hb1
  rw [HR.out] at RC
  have RH := Lib.hid RC
  clear RC
  go_wp2_with fail
  refine (RH.out).mono ?_
  rintro e w1 ⟨_, rfl, rfl, hb⟩
  replace W := W.below hb
  clear hb RH
  obtain ⟨lq, q0, q1, q2, q3⟩ := HB.dec (t := 25) (g := w.heap.size + 1 + 1) (a := .bool false) (b := .int .u64 0) (c := .int .u64 0) (d := .int .i64 0) W (by simp)
  have Bz := HB.blk (g := w.heap.size + 1 + 1) (t := 25) (cs := #[.bool false, .int .u64 0, .int .u64 0, .int .i64 0]) W (by simp)
  have fz0 := Bz.frozen 0
  have fz1 := Bz.frozen 1
  have fz2 := Bz.frozen 2
  have fz3 := Bz.frozen 3
  clear Bz
  have HB1 := Lib.hid W.1
  clear W
  go_wp2
  exact bodyPost_ret (v := .tuple #[.agg #[.bool false, .int .u64 0, .int .u64 0, .int .i64 0], .int .i64 1]) (by simp [results, Tryz.results6, go_sem, q0, q1, q2, q3]) rfl ⟨_, ans_err 1, rfl, bel4 HB1.out hlg⟩

set_option maxRecDepth 100000 in
set_option maxHeartbeats 1600000 in
theorem addN_b (n : Bool) (a b s : Int) (n' : Bool) (a' b' s' : Int) (w : World) (ha : U64 a) (hb1 : U64 b) (ha' : U64 a') (hb1' : U64 b') (hr : RightD n a b s) (hr' : ¬ RightD n' a' b' s') :
    Calls Tryz.prog 6 #[.agg #[.bool n, .int .u64 a, .int .u64 b, .int .i64 s], .agg #[.bool n', .int .u64 a', .int .u64 b', .int .i64 s']] w (Ret w (Ans (errV 1))) := by
  have HR := Lib.hid (decide_eq_true hr)
  have HR' := Lib.hid (decide_eq_false hr')
  clear hr hr'
  have hlg : w.heap.size ≤ w.heap.size + 1 + 1 := by omega
  have W : HB w [(w.heap.size + 1 + 1, 25, #[.bool false, .int .u64 0, .int .u64 0, .int .i64 0]), (w.heap.size + 1, 25, #[.bool n', .int .u64 a', .int .u64 b', .int .i64 s']), (w.heap.size, 25, #[.bool n, .int .u64 a, .int .u64 b, .int .i64 s])] (((w.alloc (.cells #[.bool n, .int .u64 a, .int .u64 b, .int .i64 s] 25)).alloc (.cells #[.bool n', .int .u64 a', .int .u64 b', .int .i64 s'] 25)).alloc (.cells #[.bool false, .int .u64 0, .int .u64 0, .int .i64 0] 25)) := by
    have h := (((HB.start (Below.refl _ w)).push #[.bool n, .int .u64 a, .int .u64 b, .int .i64 s] 25).push #[.bool n', .int .u64 a', .int .u64 b', .int .i64 s'] 25).push #[.bool false, .int .u64 0, .int .u64 0, .int .i64 0] 25
    simpa using h
  go_enter Tryz.func6, Tryz.ntmps6
  have RC := right_c n a b s (((w.alloc (.cells #[.bool n, .int .u64 a, .int .u64 b, .int .i64 s] 25)).alloc (.cells #[.bool n', .int .u64 a', .int .u64 b', .int .i64 s'] 25)).alloc (.cells #[.bool false, .int .u64 0, .int .u64 0, .int .i64 0] 25)) ha hb1
  rw [HR.out] at RC
  have RH := Lib.hid RC
  clear RC
  go_wp2_with fail
  refine (RH.out).mono ?_
  rintro e w1 ⟨_, rfl, rfl, hb⟩
  replace W := W.below hb
  clear hb RH
  obtain ⟨lq, q0, q1, q2, q3⟩ := HB.dec (t := 25) (g := w.heap.size + 1) (a := .bool n') (b := .int .u64 a') (c := .int .u64 b') (d := .int .i64 s') W (by simp)
  have RC := right_c n' a' b' s' w1 ha' hb1'
  rw [HR'.out] at RC
  have RH := Lib.hid RC
  clear RC
  go_wp2_with fail
  refine (RH.out).mono ?_
  rintro e w2 ⟨_, rfl, rfl, hb⟩
  replace W := W.below hb
  clear hb lq q0 q1 q2 q3 RH
  obtain ⟨lq, q0, q1, q2, q3⟩ := HB.dec (t := 25) (g := w.heap.size + 1 + 1) (a := .bool false) (b := .int .u64 0) (c := .int .u64 0) (d := .int .i64 0) W (by simp)
  have Bz := HB.blk (g := w.heap.size + 1 + 1) (t := 25) (cs := #[.bool false, .int .u64 0, .int .u64 0, .int .i64 0]) W (by simp)
  have fz0 := Bz.frozen 0
  have fz1 := Bz.frozen 1
  have fz2 := Bz.frozen 2
  have fz3 := Bz.frozen 3
  clear Bz
  have HB1 := Lib.hid W.1
  clear W
  go_wp2
  exact bodyPost_ret (v := .tuple #[.agg #[.bool false, .int .u64 0, .int .u64 0, .int .i64 0], .int .i64 1]) (by simp [results, Tryz.results6, go_sem, q0, q1, q2, q3]) rfl ⟨_, ans_err 1, rfl, bel4 HB1.out hlg⟩

end Go.Proofs.YtlhceelkefgjhaaGreatDoor

/- Package dec: contracts at small decimals: sizeAt, bothAt, difference, Mul, Add, Sub, Cmp. -/
import Derived.Test.YtlhceelkefgjhaaGreatDoorDecB
namespace Go.Proofs.YtlhceelkefgjhaaGreatDoor
open Go.RowKit

theorem HB.put2 {w0 w : World} {bs bs' : List (Nat × TypeId × Array Value)} {g : Nat} {t : TypeId} {a b a' b' : Value} (h : HB w0 bs w) (hm : (g, t, #[a, b]) ∈ bs) (hg : w0.heap.size ≤ g) (hs : ∀ x ∈ bs', x ∈ bs ∧ x.1 ≠ g) :
    HB w0 ((g, t, #[a', b']) :: bs') ((w.setCell ⟨g, 0, none⟩ a').setCell ⟨g, 1, none⟩ b') := by
  have B := (h.blk hm)
  refine ⟨bel2 h.1 hg, fun x hx => ?_⟩
  rcases List.mem_cons.1 hx with rfl | hx
  · exact (B.set_ 0 a').set_ 1 b'
  · exact ((h.2 x (hs x hx).1).far (p := ⟨g, 0, none⟩) (hs x hx).2 _).far (p := ⟨g, 1, none⟩) (hs x hx).2 _
theorem pow10_9 {k : Nat} (h : k ≤ 9) : 10 ^ k ≤ 1000000000 := by
  have : 10 ^ k ≤ 10 ^ 9 := Nat.pow_le_pow_right (by decide) h
  exact this
theorem sm_mul {z : Int} {k : Nat} (hz : Sm z) (hk : k ≤ 9) : z.natAbs * 10 ^ k < 100000000000000000000000000000 := by
  have h1 := pow10_9 hk
  have h2 : z.natAbs * 10 ^ k ≤ z.natAbs * 1000000000 := Nat.mul_le_mul_left _ h1
  unfold Sm at hz
  omega
/-- A product below 2 to the 128 in its lower words. -/
theorem mul_short {a b x y c0 c1 c2 c3 s0 s1 : Int} {p : Bool} (hm : MulR a b x y c0 c1 c2 c3) (hs : ShortR c0 c1 c2 c3 s0 s1 p) (hl : v2 a b * v2 x y < 340282366920938463463374607431768211456) : p = true ∧ U64 s0 ∧ U64 s1 ∧ v2 s0 s1 = v2 a b * v2 x y := by
  obtain ⟨h0, h1, h2, h3, e⟩ := hm
  rw [← e] at hl ⊢
  obtain ⟨z2, z3, e2⟩ := v4_low h0 h1 h2 h3 hl
  rcases hs with ⟨_, hp, rfl, rfl⟩ | ⟨hn, _⟩
  · exact ⟨hp, h0, h1, e2.symm⟩
  · exact absurd ⟨z2, z3⟩ hn
theorem size_fin {a b x y c0 c1 c2 c3 s0 s1 z : Int} {k : Nat} {p : Bool} (hz : Sm z) (hk : k ≤ 9) (ea : v2 a b = z.natAbs) (ex : v2 x y = 10 ^ k) (hm : MulR a b x y c0 c1 c2 c3) (hs : ShortR c0 c1 c2 c3 s0 s1 p) : p = true ∧ U64 s0 ∧ U64 s1 ∧ v2 s0 s1 = z.natAbs * 10 ^ k := by
  have h := sm_mul hz hk
  have := mul_short hm hs (by rw [ea, ex]; omega)
  rwa [ea, ex] at this
theorem ten_fin {k : Int} {x y : Int} {p : Bool} (h : TenR k x y p) (h0 : 0 ≤ k) (h9 : k ≤ 9) : U64 x ∧ U64 y ∧ v2 x y = 10 ^ k.toNat := by
  obtain ⟨a, b, ⟨_, _, _, e⟩ | ⟨hn, _⟩⟩ := h
  · exact ⟨a, b, e⟩
  · exact absurd ⟨h0, by omega⟩ hn
/-- A number at a greater Scale. -/
def upN (z s t : Int) : Nat := z.natAbs * 10 ^ (t - s).toNat
def IsUp (N : Nat) (v : Value) : Prop := ∃ x y : Int, (U64 x ∧ U64 y ∧ v2 x y = N) ∧ v = .tuple #[.agg #[.int .u64 x, .int .u64 y], .bool true]
def IsUp2 (M N : Nat) (v : Value) : Prop := ∃ x y x' y' : Int, (U64 x ∧ U64 y ∧ v2 x y = M) ∧ (U64 x' ∧ U64 y' ∧ v2 x' y' = N) ∧ v = .tuple #[.agg #[.int .u64 x, .int .u64 y], .agg #[.int .u64 x', .int .u64 y'], .bool true]

set_option maxRecDepth 100000 in
set_option maxHeartbeats 1600000 in
theorem sizeAt_d (n : Bool) (a b s t z : Int) (w : World) (h : DecIs n a b z) (hz : Sm z) (h0 : 0 ≤ s) (hst : s ≤ t) (h9 : t ≤ 9) :
    Calls Tryz.prog 36 #[.agg #[.bool n, .int .u64 a, .int .u64 b, .int .i64 s], .int .i64 t] w (Ret w (IsUp (upN z s t))) := by
  have W : HB w [(w.heap.size + 1, 23, #[.int .u64 0, .int .u64 0]), (w.heap.size, 25, #[.bool n, .int .u64 a, .int .u64 b, .int .i64 s])] ((w.alloc (.cells #[.bool n, .int .u64 a, .int .u64 b, .int .i64 s] 25)).alloc (.cells #[.int .u64 0, .int .u64 0] 23)) := by
    have h := ((HB.start (Below.refl _ w)).push #[.bool n, .int .u64 a, .int .u64 b, .int .i64 s] 25).push #[.int .u64 0, .int .u64 0] 23
    simpa using h
  have hle : w.heap.size ≤ w.heap.size + 1 := by omega
  have hk9 : (t - s).toNat ≤ 9 := by omega
  have ha := h.2.1
  have hb' := h.2.2.1
  have HE := Lib.hid h.2.2.2
  have HZ := Lib.hid hz
  clear hz h
  go_enter Tryz.func36, Tryz.ntmps36
  go_wp2_with fail
  refine (ten_c (t - s) _).mono ?_
  rintro e w1 ⟨_, ⟨x, y, p, HT, rfl⟩, rfl, hb⟩
  replace W := W.below hb
  clear hb
  obtain ⟨hx, hy, ex⟩ := ten_fin HT (by omega) (by omega)
  have EX := Lib.hid ex
  clear ex HT
  obtain ⟨lq, q0, q1, q2, q3⟩ := HB.dec (t := 25) (g := w.heap.size) (a := .bool n) (b := .int .u64 a) (c := .int .u64 b) (d := .int .i64 s) W (by simp)
  replace W := W.push #[.int .u64 x, .int .u64 y] 23
  go_wp2_with fail
  refine (mul_c a b x y _ ha hb' hx hy).mono ?_
  rintro e w2 ⟨_, ⟨c0, c1, c2, c3, HM, rfl⟩, rfl, hb⟩
  replace W := W.below hb
  clear hb lq q0 q1 q2 q3
  go_wp2_with fail
  refine (short_c c0 c1 c2 c3 _).mono ?_
  rintro e w3 ⟨_, ⟨s0, s1, p', HS, rfl⟩, rfl, hb⟩
  replace W := W.below hb
  clear hb
  obtain ⟨rfl, hs0, hs1, es⟩ := size_fin HZ.out hk9 HE.out EX.out HM HS
  have ES := Lib.hid es
  clear es HM HS
  obtain ⟨lq, q0, q1⟩ := HB.two (t := 23) (g := w.heap.size + 1) (a := .int .u64 0) (b := .int .u64 0) W (by simp)
  have Bz := HB.blk (g := w.heap.size + 1) (t := 23) (cs := #[.int .u64 0, .int .u64 0]) W (by simp)
  have fz0 := Bz.frozen 0
  have fz1 := Bz.frozen 1
  clear Bz
  have HB1 := Lib.hid W.1
  clear W
  go_wp2
  exact bodyPost_ret (v := .tuple #[.agg #[.int .u64 s0, .int .u64 s1], .bool true]) (by simp [results, Tryz.results36, go_sem, q0, q1]) rfl ⟨_, ⟨_, _, ⟨hs0, hs1, ES.out⟩, rfl⟩, rfl, bel2 HB1.out hle⟩

set_option maxRecDepth 100000 in
set_option maxHeartbeats 1600000 in
theorem bothAt_d (n : Bool) (a b s z : Int) (n' : Bool) (a' b' s' z' : Int) (t : Int) (w : World) (h : DecIs n a b z) (h' : DecIs n' a' b' z') (hz : Sm z) (hz' : Sm z') (h0 : 0 ≤ s) (h0' : 0 ≤ s') (hst : s ≤ t) (hst' : s' ≤ t) (h9 : t ≤ 9) :
    Calls Tryz.prog 30 #[.agg #[.bool n, .int .u64 a, .int .u64 b, .int .i64 s], .agg #[.bool n', .int .u64 a', .int .u64 b', .int .i64 s'], .int .i64 t] w (Ret w (IsUp2 (upN z s t) (upN z' s' t))) := by
  have W : HB w [(w.heap.size + 1 + 1 + 1, 23, #[.int .u64 0, .int .u64 0]), (w.heap.size + 1 + 1, 23, #[.int .u64 0, .int .u64 0]), (w.heap.size + 1, 25, #[.bool n', .int .u64 a', .int .u64 b', .int .i64 s']), (w.heap.size, 25, #[.bool n, .int .u64 a, .int .u64 b, .int .i64 s])] ((((w.alloc (.cells #[.bool n, .int .u64 a, .int .u64 b, .int .i64 s] 25)).alloc (.cells #[.bool n', .int .u64 a', .int .u64 b', .int .i64 s'] 25)).alloc (.cells #[.int .u64 0, .int .u64 0] 23)).alloc (.cells #[.int .u64 0, .int .u64 0] 23)) := by
    have h := ((((HB.start (Below.refl _ w)).push #[.bool n, .int .u64 a, .int .u64 b, .int .i64 s] 25).push #[.bool n', .int .u64 a', .int .u64 b', .int .i64 s'] 25).push #[.int .u64 0, .int .u64 0] 23).push #[.int .u64 0, .int .u64 0] 23
    simpa using h
  have hle : w.heap.size ≤ w.heap.size + 1 + 1 := by omega
  have hle' : w.heap.size ≤ w.heap.size + 1 + 1 + 1 := by omega
  have Hh := Lib.hid h
  have H'h := Lib.hid h'
  have HZh := Lib.hid hz
  have HZ'h := Lib.hid hz'
  clear h h' hz hz'
  go_enter Tryz.func30, Tryz.ntmps30
  go_wp2_with fail
  refine (sizeAt_d n a b s t z _ Hh.out HZh.out h0 hst h9).mono ?_
  rintro e w1 ⟨_, ⟨x, y, ⟨hx, hy, ex⟩, rfl⟩, rfl, hb⟩
  replace W := W.below hb
  clear hb
  have EX := Lib.hid ex
  clear ex
  obtain ⟨lq, q0, q1, q2, q3⟩ := HB.dec (t := 25) (g := w.heap.size + 1) (a := .bool n') (b := .int .u64 a') (c := .int .u64 b') (d := .int .i64 s') W (by simp)
  obtain ⟨lp, p0, p1⟩ := HB.two (t := 23) (g := w.heap.size + 1 + 1) (a := .int .u64 0) (b := .int .u64 0) W (by simp)
  have Bz := HB.blk (g := w.heap.size + 1 + 1) (t := 23) (cs := #[.int .u64 0, .int .u64 0]) W (by simp)
  have fz0 := Bz.frozen 0
  have fz1 := Bz.frozen 1
  clear Bz
  replace W := HB.put2 (g := w.heap.size + 1 + 1) (t := 23) (a' := .int .u64 x) (b' := .int .u64 y) (bs' := [(w.heap.size + 1 + 1 + 1, 23, #[.int .u64 0, .int .u64 0]), (w.heap.size + 1, 25, #[.bool n', .int .u64 a', .int .u64 b', .int .i64 s'])]) W (a := .int .u64 0) (b := .int .u64 0) (by simp) hle (by simp)
  go_wp2_with fail
  refine (sizeAt_d n' a' b' s' t z' _ H'h.out HZ'h.out h0' hst' h9).mono ?_
  rintro e w2 ⟨_, ⟨x', y', ⟨hx', hy', ex'⟩, rfl⟩, rfl, hb⟩
  replace W := W.below hb
  clear hb lq q0 q1 q2 q3 lp p0 p1 fz0 fz1
  have EX' := Lib.hid ex'
  clear ex'
  obtain ⟨lq, q0, q1⟩ := HB.two (t := 23) (g := w.heap.size + 1 + 1) (a := .int .u64 x) (b := .int .u64 y) W (by simp)
  obtain ⟨lp, p0, p1⟩ := HB.two (t := 23) (g := w.heap.size + 1 + 1 + 1) (a := .int .u64 0) (b := .int .u64 0) W (by simp)
  have Bz := HB.blk (g := w.heap.size + 1 + 1) (t := 23) (cs := #[.int .u64 x, .int .u64 y]) W (by simp)
  have fz0 := Bz.frozen 0
  have fz1 := Bz.frozen 1
  clear Bz
  have By := HB.blk (g := w.heap.size + 1 + 1 + 1) (t := 23) (cs := #[.int .u64 0, .int .u64 0]) W (by simp)
  have fy0 := By.frozen 0
  have fy1 := By.frozen 1
  clear By
  have HB2 := HB.put2 (g := w.heap.size + 1 + 1 + 1) (t := 23) (a := .int .u64 0) (b := .int .u64 0) (a' := .int .u64 x') (b' := .int .u64 y') (bs' := [(w.heap.size + 1 + 1, 23, #[.int .u64 x, .int .u64 y])]) W (by simp) hle' (by simp)
  have HB3 := HB.put2 (g := w.heap.size + 1 + 1) (t := 23) (a := .int .u64 x) (b := .int .u64 y) (a' := .int .u64 x) (b' := .int .u64 y) (bs' := [(w.heap.size + 1 + 1 + 1, 23, #[.int .u64 x', .int .u64 y'])]) HB2 (by simp) hle (by simp)
  have HB4 := HB.put2 (g := w.heap.size + 1 + 1 + 1) (t := 23) (a := .int .u64 x') (b := .int .u64 y') (a' := .int .u64 x') (b' := .int .u64 y') (bs' := [(w.heap.size + 1 + 1, 23, #[.int .u64 x, .int .u64 y])]) HB3 (by simp) hle' (by simp)
  obtain ⟨lr, r0, r1⟩ := HB.two (t := 23) (g := w.heap.size + 1 + 1) (a := .int .u64 x) (b := .int .u64 y) HB4 (by simp)
  obtain ⟨ls, s0, s1⟩ := HB.two (t := 23) (g := w.heap.size + 1 + 1 + 1) (a := .int .u64 x') (b := .int .u64 y') HB4 (by simp)
  have HB1 := Lib.hid HB4.1
  have R0 := Lib.hid r0
  have R1 := Lib.hid r1
  have S0 := Lib.hid s0
  have S1 := Lib.hid s1
  clear W HB2 HB3 HB4 r0 r1 s0 s1 lr ls
  go_wp2
  go_region
  all_goals
    go_wp2
    refine bodyPost_ret (v := .tuple #[.agg #[.int .u64 x, .int .u64 y], .agg #[.int .u64 x', .int .u64 y'], .bool true]) (by simp [results, Tryz.results30, go_sem, R0.out, R1.out, S0.out, S1.out]) rfl ⟨_, ⟨_, _, _, _, ⟨hx, hy, EX.out⟩, ⟨hx', hy', EX'.out⟩, rfl⟩, rfl, ?_⟩
    exact HB1.out.drew

end Go.Proofs.YtlhceelkefgjhaaGreatDoor

/- pyxlaw2: DecSums. -/
import Derived.Test.YtfppkhbbcnplfaaGreatDoorTextH
import Derived.Test.YtfppkhbbcnplfaaGreatDoorRefP
import Derived.Test.YtfppkhbbcnplfaaGreatDoorSubA
import Derived.Test.YtfppkhbbcnplfaaGreatDoorHand
import Derived.Test.YtfppkhbbcnplfaaGreatDoorDet
namespace Go.Proofs.YtfppkhbbcnplfaaGreatDoor
open Go.RowKit
theorem zAt_self (z s : Int) : zAt z s s = z := by unfold zAt; simp
theorem zAt_mul (z k s t u : Int) : zAt (z * k) (s + u) (t + u) = zAt z s t * k := by
  unfold zAt
  rw [show t + u - (s + u) = t - s by omega, Int.mul_right_comm]
theorem pow_cast_add (m n : Nat) : ((10 ^ (m + n) : Nat) : Int) = ((10 ^ m : Nat) : Int) * ((10 ^ n : Nat) : Int) := by rw [Nat.pow_add]; simp
theorem zAt_up {z s r q : Int} (hs : s ≤ r) (hr : r ≤ q) : zAt z s q = zAt z s r * ((10 ^ (q - r).toNat : Nat) : Int) := by
  unfold zAt
  rw [show (q - s).toNat = (r - s).toNat + (q - r).toNat by omega, pow_cast_add, ← Int.mul_assoc]
theorem pow10_pos (k : Nat) : 0 < ((10 ^ k : Nat) : Int) := by
  have := Nat.pow_pos (n := k) (show 0 < 10 by decide)
  omega
theorem cmpZ_scale (a b : Int) (k : Int) (h : 0 < k) : cmpZ (a * k) (b * k) = cmpZ a b := by
  rcases cmpZ_cases a b with ⟨h1, e⟩ | ⟨h1, e⟩ | ⟨h1, e⟩
  · rw [e]
    have := Int.mul_lt_mul_of_pos_right h1 h
    unfold cmpZ; rw [if_neg (by omega), if_pos this]
  · rw [h1]; unfold cmpZ; simp
  · rw [e]
    have := Int.mul_lt_mul_of_pos_right h1 h
    unfold cmpZ; rw [if_neg (by omega), if_neg (by omega)]
theorem cmpZ_up {x s y t r q : Int} (hs : s ≤ r) (ht : t ≤ r) (hr : r ≤ q) : cmpZ (zAt x s r) (zAt y t r) = cmpZ (zAt x s q) (zAt y t q) := by
  rw [zAt_up hs hr, zAt_up ht hr, cmpZ_scale _ _ _ (pow10_pos _)]
theorem cmpZ_swap (a b : Int) : cmpZ b a = -cmpZ a b := by
  rcases cmpZ_cases a b with ⟨h1, e⟩ | ⟨h1, e⟩ | ⟨h1, e⟩ <;> rcases cmpZ_cases b a with ⟨h2, f⟩ | ⟨h2, f⟩ | ⟨h2, f⟩ <;> omega
theorem sign_sub (a b : Int) : (a - b).sign = cmpZ a b := by
  rcases cmpZ_cases a b with ⟨h1, e⟩ | ⟨h1, e⟩ | ⟨h1, e⟩
  · rw [e]; exact Int.sign_eq_neg_one_of_neg (by omega)
  · rw [e]; rw [h1]; simp
  · rw [e]; exact Int.sign_eq_one_of_pos (by omega)
theorem cmpZ_self (a : Int) : cmpZ a a = 0 := by unfold cmpZ; simp
theorem cmpZ_trans {x s y t z u r1 r2 r3 : Int} (a1 : s ≤ r1) (a2 : t ≤ r1) (a3 : r1 ≤ 9) (b1 : t ≤ r2) (b2 : u ≤ r2) (b3 : r2 ≤ 9) (c1 : s ≤ r3) (c2 : u ≤ r3) (c3 : r3 ≤ 9) (h1 : cmpZ (zAt x s r1) (zAt y t r1) ≤ 0) (h2 : cmpZ (zAt y t r2) (zAt z u r2) ≤ 0) : cmpZ (zAt x s r3) (zAt z u r3) ≤ 0 := by
  rw [cmpZ_up a1 a2 a3] at h1
  rw [cmpZ_up b1 b2 b3] at h2
  rw [cmpZ_up c1 c2 c3]
  rcases cmpZ_cases (zAt x s 9) (zAt y t 9) with ⟨p, e⟩ | ⟨p, e⟩ | ⟨p, e⟩ <;> rcases cmpZ_cases (zAt y t 9) (zAt z u 9) with ⟨q, f⟩ | ⟨q, f⟩ | ⟨q, f⟩ <;> rcases cmpZ_cases (zAt x s 9) (zAt z u 9) with ⟨o, g⟩ | ⟨o, g⟩ | ⟨o, g⟩ <;> omega
theorem zAt_3 {z s r M : Int} (hz : (z.natAbs : Int) ≤ M) (h0 : 0 ≤ s) (h3 : r ≤ 3) : ((zAt z s r).natAbs : Int) ≤ M * 1000 := by
  unfold zAt
  rw [Int.natAbs_mul, Int.natAbs_natCast]
  have p : 10 ^ (r - s).toNat ≤ 10 ^ 3 := Nat.pow_le_pow_right (by decide) (by omega)
  obtain ⟨m, rfl⟩ : ∃ m : Nat, M = m := ⟨M.toNat, by omega⟩
  have := Nat.mul_le_mul (show z.natAbs ≤ m by omega) p
  omega
theorem mul_abs {a b : Int} {M N : Nat} (ha : a.natAbs ≤ M) (hb : b.natAbs ≤ N) : (a * b).natAbs ≤ M * N := by
  rw [Int.natAbs_mul]
  exact Nat.mul_le_mul ha hb
theorem mx_ex (s t : Int) : ∃ r : Int, ((s < t ∧ t = r) ∨ (t ≤ s ∧ s = r)) ∧ ((t < s ∧ s = r) ∨ (s ≤ t ∧ t = r)) ∧ s ≤ r ∧ t ≤ r ∧ (r = s ∨ r = t) := by
  rcases Int.lt_or_le s t with h | h
  · exact ⟨t, by omega, by omega, by omega, by omega, by omega⟩
  · exact ⟨s, by omega, by omega, by omega, by omega, by omega⟩
set_option maxRecDepth 100000 in
set_option maxHeartbeats 6400000 in
theorem sums_c (pa pb pc ps pt pu mx : Int) (w : World) (hm : w.cell? ⟨0, 0, none⟩ = some (.int .i64 mx)) (htab : Lib.TabIs Tryz.prog w "internal/strconv.uint64pow10" .u64 Lib.pow10Tab) : Calls Tryz.prog 5 #[.int .i64 pa, .int .i64 pb, .int .i64 pc, .int .i64 ps, .int .i64 pt, .int .i64 pu] w (Ret w (IsBool true)) := by
  have HT := Lib.hid htab
  clear htab
  go_enter Tryz.func5, Tryz.ntmps5
  have V := HB.start (Below.refl w.heap.size w)
  go_wp2_with fail
  refine (pick_c _ 2000001 _ (by omega) (by omega)).mono ?_
  rintro e w' ⟨_, ⟨v1, ⟨lo1, hi1⟩, rfl⟩, rfl, rfl⟩
  obtain ⟨x, e1⟩ : ∃ x : Int, v1 - 1000000 = x := ⟨_, rfl⟩
  have hx : x.natAbs ≤ 1000000 := by omega
  go_wp2_with fail
  refine (pick_c _ 4 _ (by omega) (by omega)).mono ?_
  rintro e w' ⟨_, ⟨s, ⟨ls, hs⟩, rfl⟩, rfl, rfl⟩
  go_wp2_with fail
  refine (refOf_c x s _ (by omega) (by omega) (by omega) (by omega)).mono ?_
  clear lo1 hi1 e1
  rintro e w1 ⟨_, ⟨n1, a1, b1, D1, rfl⟩, rfl, hb⟩
  replace V := V.below hb
  clear hb
  replace V := V.push #[.bool n1, .int .u64 a1, .int .u64 b1, .int .i64 s] 25
  go_wp2_with fail
  refine (pick_c _ 2000001 _ (by omega) (by omega)).mono ?_
  rintro e w' ⟨_, ⟨v2, ⟨lo2, hi2⟩, rfl⟩, rfl, rfl⟩
  obtain ⟨y, e2⟩ : ∃ y : Int, v2 - 1000000 = y := ⟨_, rfl⟩
  have hy : y.natAbs ≤ 1000000 := by omega
  go_wp2_with fail
  refine (pick_c _ 4 _ (by omega) (by omega)).mono ?_
  rintro e w' ⟨_, ⟨t, ⟨lt, ht⟩, rfl⟩, rfl, rfl⟩
  go_wp2_with fail
  refine (refOf_c y t _ (by omega) (by omega) (by omega) (by omega)).mono ?_
  clear lo2 hi2 e2
  rintro e w2 ⟨_, ⟨n2, a2, b2, D2, rfl⟩, rfl, hb⟩
  replace V := V.below hb
  clear hb
  obtain ⟨g1, p10, p11, p12, p13⟩ := HB.dec (t := 25) (g := w1.heap.size) (a := .bool n1) (b := .int .u64 a1) (c := .int .u64 b1) (d := .int .i64 s) V (by simp)
  replace V := V.push #[.bool n2, .int .u64 a2, .int .u64 b2, .int .i64 t] 25
  go_wp2_with fail
  refine (pick_c _ 2000001 _ (by omega) (by omega)).mono ?_
  rintro e w' ⟨_, ⟨v3, ⟨lo3, hi3⟩, rfl⟩, rfl, rfl⟩
  obtain ⟨z, e3⟩ : ∃ z : Int, v3 - 1000000 = z := ⟨_, rfl⟩
  have hz : z.natAbs ≤ 1000000 := by omega
  go_wp2_with fail
  refine (pick_c _ 2 _ (by omega) (by omega)).mono ?_
  rintro e w' ⟨_, ⟨u, ⟨lu, hu⟩, rfl⟩, rfl, rfl⟩
  go_wp2_with fail
  refine (refOf_c z u _ (by omega) (by omega) (by omega) (by omega)).mono ?_
  clear lo3 hi3 e3
  clear g1 p10 p11 p12 p13
  rintro e w3 ⟨_, ⟨n3, a3, b3, D3, rfl⟩, rfl, hb⟩
  replace V := V.below hb
  clear hb
  obtain ⟨g1, p10, p11, p12, p13⟩ := HB.dec (t := 25) (g := w1.heap.size) (a := .bool n1) (b := .int .u64 a1) (c := .int .u64 b1) (d := .int .i64 s) V (by simp)
  obtain ⟨g2, p20, p21, p22, p23⟩ := HB.dec (t := 25) (g := w2.heap.size) (a := .bool n2) (b := .int .u64 a2) (c := .int .u64 b2) (d := .int .i64 t) V (by simp)
  replace V := V.push #[.bool n3, .int .u64 a3, .int .u64 b3, .int .i64 u] 25
  obtain ⟨r, hr, hr2, sr, tr, rst⟩ := mx_ex s t
  obtain ⟨r2, hyz, -, tr2, ur2, r2st⟩ := mx_ex t u
  obtain ⟨r3, hxz, -, sr3, ur3, r3st⟩ := mx_ex s u
  obtain ⟨X, hX⟩ : ∃ X, zAt x s r = X := ⟨_, rfl⟩
  obtain ⟨Y, hY⟩ : ∃ Y, zAt y t r = Y := ⟨_, rfl⟩
  have bX : X.natAbs ≤ 1000000000 := by have := zAt_3 (z := x) (s := s) (r := r) (M := 1000000) (by omega) ls (by omega); rw [hX] at this; omega
  have bY : Y.natAbs ≤ 1000000000 := by have := zAt_3 (z := y) (s := t) (r := r) (M := 1000000) (by omega) lt (by omega); rw [hY] at this; omega
  have bxz : (x * z).natAbs ≤ 1000000000000 := mul_abs hx hz
  have byz : (y * z).natAbs ≤ 1000000000000 := mul_abs hy hz
  have bp : (X + Y).natAbs ≤ 2000000000 := by omega
  have bpz : ((X + Y) * z).natAbs ≤ 2000000000000000 := mul_abs bp hz
  have eK : zAt (x * z) (s + u) (r + u) + zAt (y * z) (t + u) (r + u) = (X + Y) * z := by rw [zAt_mul, zAt_mul, hX, hY, ← Int.add_mul]
  have s9 : s ≤ 9 := by omega
  have t9 : t ≤ 9 := by omega
  have u9 : u ≤ 9 := by omega
  have lr : 0 ≤ r := by omega
  have r9 : r ≤ 9 := by omega
  have ru9 : r + u ≤ 9 := by omega
  have su9 : s + u ≤ 9 := by omega
  have tu9 : t + u ≤ 9 := by omega
  have lru : 0 ≤ r + u := by omega
  have lsu : 0 ≤ s + u := by omega
  have ltu : 0 ≤ t + u := by omega
  have hru : (s + u < t + u ∧ t + u = r + u) ∨ (t + u ≤ s + u ∧ s + u = r + u) := by omega
  have SX := Lib.hid (show Sm x by unfold Sm; omega)
  have SY := Lib.hid (show Sm y by unfold Sm; omega)
  have SZ := Lib.hid (show Sm z by unfold Sm; omega)
  have SP := Lib.hid (show Sm (X + Y) by unfold Sm; omega)
  have SbX := Lib.hid (show Sm X by unfold Sm; omega)
  have SXZ := Lib.hid (show Sm (x * z) by unfold Sm; omega)
  have SYZ := Lib.hid (show Sm (y * z) by unfold Sm; omega)
  have SPZ := Lib.hid (show Sm ((X + Y) * z) by unfold Sm; omega)
  have SD := Lib.hid (show (X - Y).natAbs < 1000000000000000000000000000000 by omega)
  have Qpz := Lib.hid (show (X + Y).natAbs * z.natAbs < 1000000000000000000000000000000 by rw [← Int.natAbs_mul]; omega)
  have Qxz := Lib.hid (show x.natAbs * z.natAbs < 1000000000000000000000000000000 by rw [← Int.natAbs_mul]; omega)
  have Qyz := Lib.hid (show y.natAbs * z.natAbs < 1000000000000000000000000000000 by rw [← Int.natAbs_mul]; omega)
  obtain ⟨c, hc⟩ : ∃ c, cmpZ X Y = c := ⟨_, rfl⟩
  obtain ⟨c', hc'⟩ : ∃ c', cmpZ Y X = c' := ⟨_, rfl⟩
  obtain ⟨d, hd⟩ : ∃ d, cmpZ (zAt y t r2) (zAt z u r2) = d := ⟨_, rfl⟩
  obtain ⟨f, hf⟩ : ∃ f, cmpZ (zAt x s r3) (zAt z u r3) = f := ⟨_, rfl⟩
  have hσ : (X - Y).sign = c := by rw [sign_sub, hc]
  have c3 : c = -1 ∨ c = 0 ∨ c = 1 := by rw [← hc]; rcases cmpZ_cases X Y with ⟨_, e⟩ | ⟨_, e⟩ | ⟨_, e⟩ <;> omega
  have d3 : d = -1 ∨ d = 0 ∨ d = 1 := by rw [← hd]; rcases cmpZ_cases (zAt y t r2) (zAt z u r2) with ⟨_, e⟩ | ⟨_, e⟩ | ⟨_, e⟩ <;> omega
  have f3 : f = -1 ∨ f = 0 ∨ f = 1 := by rw [← hf]; rcases cmpZ_cases (zAt x s r3) (zAt z u r3) with ⟨_, e⟩ | ⟨_, e⟩ | ⟨_, e⟩ <;> omega
  have hcc : (c == IntKind.i64.wrap (-c')) = true := by
    have e : c' = -c := by rw [← hc, ← hc']; exact cmpZ_swap X Y
    subst e
    rcases c3 with h | h | h <;> (rw [h]; decide)
  have tri : c ≤ 0 → d ≤ 0 → f ≤ 0 := fun h1 h2 => by
    rw [← hf]
    refine cmpZ_trans (x := x) (y := y) (z := z) sr tr r9 tr2 ur2 (by omega) sr3 ur3 (by omega) ?_ ?_
    · rw [hX, hY, hc]; exact h1
    · rw [hd]; exact h2
  have hq6 : cmpZ (zAt X r r) (zAt x s r) = 0 := by rw [zAt_self, hX, cmpZ_self]
  have hq7 : cmpZ (zAt ((X + Y) * z) (r + u) (r + u)) (zAt ((X + Y) * z) (r + u) (r + u)) = 0 := cmpZ_self _
  have hq1 : cmpZ (zAt x s r) (zAt y t r) = c := by rw [hX, hY, hc]
  have hq2 : cmpZ (zAt y t r) (zAt x s r) = c' := by rw [hX, hY, hc']
  have TRI := Lib.hid tri
  have C3 := Lib.hid c3
  have D3' := Lib.hid d3
  have F3 := Lib.hid f3
  have EK := Lib.hid eK
  have EX := Lib.hid hX
  have EY := Lib.hid hY
  clear tri c3 d3 f3 eK hX hY hx hy hz hs ht hu bX bY bxz byz bp bpz rst r2st r3st hc hc'
  go_wp2_with fail
  refine (add_d n1 a1 b1 s x n2 a2 b2 t y r _ D2 D1 SX.out SY.out ls lt s9 t9 hr).mono ?_
  clear g1 p10 p11 p12 p13 g2 p20 p21 p22 p23
  rintro e w4 ⟨_, ⟨n4, a4, b4, D4, rfl⟩, rfl, hb⟩
  replace V := V.below hb
  clear hb
  obtain ⟨g1, p10, p11, p12, p13⟩ := HB.dec (t := 25) (g := w1.heap.size) (a := .bool n1) (b := .int .u64 a1) (c := .int .u64 b1) (d := .int .i64 s) V (by simp)
  obtain ⟨g2, p20, p21, p22, p23⟩ := HB.dec (t := 25) (g := w2.heap.size) (a := .bool n2) (b := .int .u64 a2) (c := .int .u64 b2) (d := .int .i64 t) V (by simp)
  obtain ⟨g3, p30, p31, p32, p33⟩ := HB.dec (t := 25) (g := w3.heap.size) (a := .bool n3) (b := .int .u64 a3) (c := .int .u64 b3) (d := .int .i64 u) V (by simp)
  replace V := V.push #[.bool n4, .int .u64 a4, .int .u64 b4, .int .i64 r] 25
  rw [EX.out, EY.out] at D4
  go_wp2_with fail
  refine (add_d n2 a2 b2 t y n1 a1 b1 s x r _ D1 D2 SY.out SX.out lt ls t9 s9 hr2).mono ?_
  clear g1 p10 p11 p12 p13 g2 p20 p21 p22 p23 g3 p30 p31 p32 p33
  rintro e w5 ⟨_, ⟨n5, a5, b5, D5, rfl⟩, rfl, hb⟩
  replace V := V.below hb
  clear hb
  obtain ⟨g1, p10, p11, p12, p13⟩ := HB.dec (t := 25) (g := w1.heap.size) (a := .bool n1) (b := .int .u64 a1) (c := .int .u64 b1) (d := .int .i64 s) V (by simp)
  obtain ⟨g2, p20, p21, p22, p23⟩ := HB.dec (t := 25) (g := w2.heap.size) (a := .bool n2) (b := .int .u64 a2) (c := .int .u64 b2) (d := .int .i64 t) V (by simp)
  obtain ⟨g3, p30, p31, p32, p33⟩ := HB.dec (t := 25) (g := w3.heap.size) (a := .bool n3) (b := .int .u64 a3) (c := .int .u64 b3) (d := .int .i64 u) V (by simp)
  obtain ⟨g4, p40, p41, p42, p43⟩ := HB.dec (t := 25) (g := w4.heap.size) (a := .bool n4) (b := .int .u64 a4) (c := .int .u64 b4) (d := .int .i64 r) V (by simp)
  replace V := V.push #[.bool n5, .int .u64 a5, .int .u64 b5, .int .i64 r] 25
  rw [EX.out, EY.out, Int.add_comm] at D5
  go_wp2_with fail
  refine (sub_d n4 a4 b4 r (X + Y) n2 a2 b2 t y r _ D2 D4 SP.out SY.out lr lt r9 t9 (Or.inr ⟨tr, rfl⟩)).mono ?_
  clear g1 p10 p11 p12 p13 g2 p20 p21 p22 p23 g3 p30 p31 p32 p33 g4 p40 p41 p42 p43
  rintro e w6 ⟨_, ⟨n6, a6, b6, D6, rfl⟩, rfl, hb⟩
  replace V := V.below hb
  clear hb
  obtain ⟨g1, p10, p11, p12, p13⟩ := HB.dec (t := 25) (g := w1.heap.size) (a := .bool n1) (b := .int .u64 a1) (c := .int .u64 b1) (d := .int .i64 s) V (by simp)
  obtain ⟨g2, p20, p21, p22, p23⟩ := HB.dec (t := 25) (g := w2.heap.size) (a := .bool n2) (b := .int .u64 a2) (c := .int .u64 b2) (d := .int .i64 t) V (by simp)
  obtain ⟨g3, p30, p31, p32, p33⟩ := HB.dec (t := 25) (g := w3.heap.size) (a := .bool n3) (b := .int .u64 a3) (c := .int .u64 b3) (d := .int .i64 u) V (by simp)
  obtain ⟨g4, p40, p41, p42, p43⟩ := HB.dec (t := 25) (g := w4.heap.size) (a := .bool n4) (b := .int .u64 a4) (c := .int .u64 b4) (d := .int .i64 r) V (by simp)
  obtain ⟨g5, p50, p51, p52, p53⟩ := HB.dec (t := 25) (g := w5.heap.size) (a := .bool n5) (b := .int .u64 a5) (c := .int .u64 b5) (d := .int .i64 r) V (by simp)
  replace V := V.push #[.bool n6, .int .u64 a6, .int .u64 b6, .int .i64 r] 25
  rw [zAt_self, EY.out, Int.add_sub_cancel] at D6
  go_wp2_with fail
  refine (mul_d n4 a4 b4 r (X + Y) n3 a3 b3 u z _ D4 D3 (sm_30 SP.out) (sm_30 SZ.out) lr lu ru9 Qpz.out).mono ?_
  clear g1 p10 p11 p12 p13 g2 p20 p21 p22 p23 g3 p30 p31 p32 p33 g4 p40 p41 p42 p43 g5 p50 p51 p52 p53
  rintro e w7 ⟨_, ⟨n7, a7, b7, D7, rfl⟩, rfl, hb⟩
  replace V := V.below hb
  clear hb
  obtain ⟨g1, p10, p11, p12, p13⟩ := HB.dec (t := 25) (g := w1.heap.size) (a := .bool n1) (b := .int .u64 a1) (c := .int .u64 b1) (d := .int .i64 s) V (by simp)
  obtain ⟨g2, p20, p21, p22, p23⟩ := HB.dec (t := 25) (g := w2.heap.size) (a := .bool n2) (b := .int .u64 a2) (c := .int .u64 b2) (d := .int .i64 t) V (by simp)
  obtain ⟨g3, p30, p31, p32, p33⟩ := HB.dec (t := 25) (g := w3.heap.size) (a := .bool n3) (b := .int .u64 a3) (c := .int .u64 b3) (d := .int .i64 u) V (by simp)
  obtain ⟨g4, p40, p41, p42, p43⟩ := HB.dec (t := 25) (g := w4.heap.size) (a := .bool n4) (b := .int .u64 a4) (c := .int .u64 b4) (d := .int .i64 r) V (by simp)
  obtain ⟨g5, p50, p51, p52, p53⟩ := HB.dec (t := 25) (g := w5.heap.size) (a := .bool n5) (b := .int .u64 a5) (c := .int .u64 b5) (d := .int .i64 r) V (by simp)
  obtain ⟨g6, p60, p61, p62, p63⟩ := HB.dec (t := 25) (g := w6.heap.size) (a := .bool n6) (b := .int .u64 a6) (c := .int .u64 b6) (d := .int .i64 r) V (by simp)
  replace V := V.push #[.bool n7, .int .u64 a7, .int .u64 b7, .int .i64 (r + u)] 25
  go_wp2_with fail
  refine (mul_d n1 a1 b1 s x n3 a3 b3 u z _ D1 D3 (sm_30 SX.out) (sm_30 SZ.out) ls lu su9 Qxz.out).mono ?_
  clear g1 p10 p11 p12 p13 g2 p20 p21 p22 p23 g3 p30 p31 p32 p33 g4 p40 p41 p42 p43 g5 p50 p51 p52 p53 g6 p60 p61 p62 p63
  rintro e w8 ⟨_, ⟨n8, a8, b8, D8, rfl⟩, rfl, hb⟩
  replace V := V.below hb
  clear hb
  obtain ⟨g1, p10, p11, p12, p13⟩ := HB.dec (t := 25) (g := w1.heap.size) (a := .bool n1) (b := .int .u64 a1) (c := .int .u64 b1) (d := .int .i64 s) V (by simp)
  obtain ⟨g2, p20, p21, p22, p23⟩ := HB.dec (t := 25) (g := w2.heap.size) (a := .bool n2) (b := .int .u64 a2) (c := .int .u64 b2) (d := .int .i64 t) V (by simp)
  obtain ⟨g3, p30, p31, p32, p33⟩ := HB.dec (t := 25) (g := w3.heap.size) (a := .bool n3) (b := .int .u64 a3) (c := .int .u64 b3) (d := .int .i64 u) V (by simp)
  obtain ⟨g4, p40, p41, p42, p43⟩ := HB.dec (t := 25) (g := w4.heap.size) (a := .bool n4) (b := .int .u64 a4) (c := .int .u64 b4) (d := .int .i64 r) V (by simp)
  obtain ⟨g5, p50, p51, p52, p53⟩ := HB.dec (t := 25) (g := w5.heap.size) (a := .bool n5) (b := .int .u64 a5) (c := .int .u64 b5) (d := .int .i64 r) V (by simp)
  obtain ⟨g6, p60, p61, p62, p63⟩ := HB.dec (t := 25) (g := w6.heap.size) (a := .bool n6) (b := .int .u64 a6) (c := .int .u64 b6) (d := .int .i64 r) V (by simp)
  obtain ⟨g7, p70, p71, p72, p73⟩ := HB.dec (t := 25) (g := w7.heap.size) (a := .bool n7) (b := .int .u64 a7) (c := .int .u64 b7) (d := .int .i64 (r + u)) V (by simp)
  replace V := V.push #[.bool n8, .int .u64 a8, .int .u64 b8, .int .i64 (s + u)] 25
  go_wp2_with fail
  refine (mul_d n2 a2 b2 t y n3 a3 b3 u z _ D2 D3 (sm_30 SY.out) (sm_30 SZ.out) lt lu tu9 Qyz.out).mono ?_
  clear g1 p10 p11 p12 p13 g2 p20 p21 p22 p23 g3 p30 p31 p32 p33 g4 p40 p41 p42 p43 g5 p50 p51 p52 p53 g6 p60 p61 p62 p63 g7 p70 p71 p72 p73
  rintro e w9 ⟨_, ⟨n9, a9, b9, D9, rfl⟩, rfl, hb⟩
  replace V := V.below hb
  clear hb
  obtain ⟨g1, p10, p11, p12, p13⟩ := HB.dec (t := 25) (g := w1.heap.size) (a := .bool n1) (b := .int .u64 a1) (c := .int .u64 b1) (d := .int .i64 s) V (by simp)
  obtain ⟨g2, p20, p21, p22, p23⟩ := HB.dec (t := 25) (g := w2.heap.size) (a := .bool n2) (b := .int .u64 a2) (c := .int .u64 b2) (d := .int .i64 t) V (by simp)
  obtain ⟨g3, p30, p31, p32, p33⟩ := HB.dec (t := 25) (g := w3.heap.size) (a := .bool n3) (b := .int .u64 a3) (c := .int .u64 b3) (d := .int .i64 u) V (by simp)
  obtain ⟨g4, p40, p41, p42, p43⟩ := HB.dec (t := 25) (g := w4.heap.size) (a := .bool n4) (b := .int .u64 a4) (c := .int .u64 b4) (d := .int .i64 r) V (by simp)
  obtain ⟨g5, p50, p51, p52, p53⟩ := HB.dec (t := 25) (g := w5.heap.size) (a := .bool n5) (b := .int .u64 a5) (c := .int .u64 b5) (d := .int .i64 r) V (by simp)
  obtain ⟨g6, p60, p61, p62, p63⟩ := HB.dec (t := 25) (g := w6.heap.size) (a := .bool n6) (b := .int .u64 a6) (c := .int .u64 b6) (d := .int .i64 r) V (by simp)
  obtain ⟨g7, p70, p71, p72, p73⟩ := HB.dec (t := 25) (g := w7.heap.size) (a := .bool n7) (b := .int .u64 a7) (c := .int .u64 b7) (d := .int .i64 (r + u)) V (by simp)
  obtain ⟨g8, p80, p81, p82, p83⟩ := HB.dec (t := 25) (g := w8.heap.size) (a := .bool n8) (b := .int .u64 a8) (c := .int .u64 b8) (d := .int .i64 (s + u)) V (by simp)
  replace V := V.push #[.bool n9, .int .u64 a9, .int .u64 b9, .int .i64 (t + u)] 25
  go_wp2_with fail
  refine (add_d n8 a8 b8 (s + u) (x * z) n9 a9 b9 (t + u) (y * z) (r + u) _ D9 D8 SXZ.out SYZ.out lsu ltu su9 tu9 hru).mono ?_
  clear g1 p10 p11 p12 p13 g2 p20 p21 p22 p23 g3 p30 p31 p32 p33 g4 p40 p41 p42 p43 g5 p50 p51 p52 p53 g6 p60 p61 p62 p63 g7 p70 p71 p72 p73 g8 p80 p81 p82 p83
  rintro e w10 ⟨_, ⟨n10, a10, b10, D10, rfl⟩, rfl, hb⟩
  replace V := V.below hb
  clear hb
  obtain ⟨g1, p10, p11, p12, p13⟩ := HB.dec (t := 25) (g := w1.heap.size) (a := .bool n1) (b := .int .u64 a1) (c := .int .u64 b1) (d := .int .i64 s) V (by simp)
  obtain ⟨g2, p20, p21, p22, p23⟩ := HB.dec (t := 25) (g := w2.heap.size) (a := .bool n2) (b := .int .u64 a2) (c := .int .u64 b2) (d := .int .i64 t) V (by simp)
  obtain ⟨g3, p30, p31, p32, p33⟩ := HB.dec (t := 25) (g := w3.heap.size) (a := .bool n3) (b := .int .u64 a3) (c := .int .u64 b3) (d := .int .i64 u) V (by simp)
  obtain ⟨g4, p40, p41, p42, p43⟩ := HB.dec (t := 25) (g := w4.heap.size) (a := .bool n4) (b := .int .u64 a4) (c := .int .u64 b4) (d := .int .i64 r) V (by simp)
  obtain ⟨g5, p50, p51, p52, p53⟩ := HB.dec (t := 25) (g := w5.heap.size) (a := .bool n5) (b := .int .u64 a5) (c := .int .u64 b5) (d := .int .i64 r) V (by simp)
  obtain ⟨g6, p60, p61, p62, p63⟩ := HB.dec (t := 25) (g := w6.heap.size) (a := .bool n6) (b := .int .u64 a6) (c := .int .u64 b6) (d := .int .i64 r) V (by simp)
  obtain ⟨g7, p70, p71, p72, p73⟩ := HB.dec (t := 25) (g := w7.heap.size) (a := .bool n7) (b := .int .u64 a7) (c := .int .u64 b7) (d := .int .i64 (r + u)) V (by simp)
  obtain ⟨g8, p80, p81, p82, p83⟩ := HB.dec (t := 25) (g := w8.heap.size) (a := .bool n8) (b := .int .u64 a8) (c := .int .u64 b8) (d := .int .i64 (s + u)) V (by simp)
  obtain ⟨g9, p90, p91, p92, p93⟩ := HB.dec (t := 25) (g := w9.heap.size) (a := .bool n9) (b := .int .u64 a9) (c := .int .u64 b9) (d := .int .i64 (t + u)) V (by simp)
  replace V := V.push #[.bool n10, .int .u64 a10, .int .u64 b10, .int .i64 (r + u)] 25
  rw [EK.out] at D10
  go_wp2_with fail
  refine (sub_d n1 a1 b1 s x n2 a2 b2 t y r _ D2 D1 SX.out SY.out ls lt s9 t9 hr).mono ?_
  clear g1 p10 p11 p12 p13 g2 p20 p21 p22 p23 g3 p30 p31 p32 p33 g4 p40 p41 p42 p43 g5 p50 p51 p52 p53 g6 p60 p61 p62 p63 g7 p70 p71 p72 p73 g8 p80 p81 p82 p83 g9 p90 p91 p92 p93
  rintro e w11 ⟨_, ⟨n11, a11, b11, D11, rfl⟩, rfl, hb⟩
  replace V := V.below hb
  clear hb
  obtain ⟨g1, p10, p11, p12, p13⟩ := HB.dec (t := 25) (g := w1.heap.size) (a := .bool n1) (b := .int .u64 a1) (c := .int .u64 b1) (d := .int .i64 s) V (by simp)
  obtain ⟨g2, p20, p21, p22, p23⟩ := HB.dec (t := 25) (g := w2.heap.size) (a := .bool n2) (b := .int .u64 a2) (c := .int .u64 b2) (d := .int .i64 t) V (by simp)
  obtain ⟨g3, p30, p31, p32, p33⟩ := HB.dec (t := 25) (g := w3.heap.size) (a := .bool n3) (b := .int .u64 a3) (c := .int .u64 b3) (d := .int .i64 u) V (by simp)
  obtain ⟨g4, p40, p41, p42, p43⟩ := HB.dec (t := 25) (g := w4.heap.size) (a := .bool n4) (b := .int .u64 a4) (c := .int .u64 b4) (d := .int .i64 r) V (by simp)
  obtain ⟨g5, p50, p51, p52, p53⟩ := HB.dec (t := 25) (g := w5.heap.size) (a := .bool n5) (b := .int .u64 a5) (c := .int .u64 b5) (d := .int .i64 r) V (by simp)
  obtain ⟨g6, p60, p61, p62, p63⟩ := HB.dec (t := 25) (g := w6.heap.size) (a := .bool n6) (b := .int .u64 a6) (c := .int .u64 b6) (d := .int .i64 r) V (by simp)
  obtain ⟨g7, p70, p71, p72, p73⟩ := HB.dec (t := 25) (g := w7.heap.size) (a := .bool n7) (b := .int .u64 a7) (c := .int .u64 b7) (d := .int .i64 (r + u)) V (by simp)
  obtain ⟨g8, p80, p81, p82, p83⟩ := HB.dec (t := 25) (g := w8.heap.size) (a := .bool n8) (b := .int .u64 a8) (c := .int .u64 b8) (d := .int .i64 (s + u)) V (by simp)
  obtain ⟨g9, p90, p91, p92, p93⟩ := HB.dec (t := 25) (g := w9.heap.size) (a := .bool n9) (b := .int .u64 a9) (c := .int .u64 b9) (d := .int .i64 (t + u)) V (by simp)
  obtain ⟨g10, p100, p101, p102, p103⟩ := HB.dec (t := 25) (g := w10.heap.size) (a := .bool n10) (b := .int .u64 a10) (c := .int .u64 b10) (d := .int .i64 (r + u)) V (by simp)
  replace V := V.push #[.bool n11, .int .u64 a11, .int .u64 b11, .int .i64 r] 25
  rw [EX.out, EY.out] at D11
  obtain ⟨rfl, rfl, rfl⟩ : n4 = n5 ∧ a4 = a5 ∧ b4 = b5 := decIs_one D4 D5
  obtain ⟨rfl, rfl, rfl⟩ : n7 = n10 ∧ a7 = a10 ∧ b7 = b10 := decIs_one D7 D10
  have q4 := eqW2_yes (a := a4) (b := b4) (c := a4) (d := b4) ⟨rfl, rfl⟩
  go_upto_region 12 with fail
  refine wp_region_det (S := fun w' => HB w [(w11.heap.size, 25, #[.bool n11, .int .u64 a11, .int .u64 b11, .int .i64 r]), (w10.heap.size, 25, #[.bool n7, .int .u64 a7, .int .u64 b7, .int .i64 (r + u)]), (w9.heap.size, 25, #[.bool n9, .int .u64 a9, .int .u64 b9, .int .i64 (t + u)]), (w8.heap.size, 25, #[.bool n8, .int .u64 a8, .int .u64 b8, .int .i64 (s + u)]), (w7.heap.size, 25, #[.bool n7, .int .u64 a7, .int .u64 b7, .int .i64 (r + u)]), (w6.heap.size, 25, #[.bool n6, .int .u64 a6, .int .u64 b6, .int .i64 r]), (w5.heap.size, 25, #[.bool n4, .int .u64 a4, .int .u64 b4, .int .i64 r]), (w4.heap.size, 25, #[.bool n4, .int .u64 a4, .int .u64 b4, .int .i64 r]), (w3.heap.size, 25, #[.bool n3, .int .u64 a3, .int .u64 b3, .int .i64 u]), (w2.heap.size, 25, #[.bool n2, .int .u64 a2, .int .u64 b2, .int .i64 t]), (w1.heap.size, 25, #[.bool n1, .int .u64 a1, .int .u64 b1, .int .i64 s])] w') (by kernel_rfl) (HB.drew V) ?_
  refine det_take (v := ?_) (i := 0) (fuel := 44) (by simp; rfl) (by kernel_rfl) (by kernel_rfl) (by kernel_rfl) (Or.inl ⟨by rfl, fun w' hS => Or.inr ⟨20, #[], w', ?_, ?_⟩⟩) ?_
  rotate_left
  · go_simp
    all_goals with_reducible rfl
  · exact (known_c mx _ (cell_keep (HB.bel hS) hm) (tabIs_below HT.out (HB.bel hS))).mono fun e w2 ⟨_, hv, he, hb⟩ => ⟨by rw [he, hv], HB.below hS hb⟩
  simp only [Act.put, List.setIfInBounds_toArray, List.set_cons_zero, List.set_cons_succ]
  refine det_take (v := ?_) (i := 1) (fuel := 43) (by simp; rfl) (by kernel_rfl) (by kernel_rfl) (by kernel_rfl) (Or.inl ⟨by rfl, fun w' hS => Or.inl ⟨w', ?_, hS⟩⟩) ?_
  rotate_left
  · go_simp
    all_goals with_reducible rfl
  simp only [Act.put, List.setIfInBounds_toArray, List.set_cons_zero, List.set_cons_succ]
  refine det_take (v := ?_) (i := 2) (fuel := 42) (by simp; rfl) (by kernel_rfl) (by kernel_rfl) (by kernel_rfl) (Or.inl ⟨by rfl, fun w' hS => Or.inl ⟨w', ?_, hS⟩⟩) ?_
  rotate_left
  · go_simp
    all_goals with_reducible rfl
  simp only [Act.put, List.setIfInBounds_toArray, List.set_cons_zero, List.set_cons_succ]
  refine det_take (v := ?_) (i := 3) (fuel := 41) (by simp; rfl) (by kernel_rfl) (by kernel_rfl) (by kernel_rfl) (Or.inl ⟨by rfl, fun w' hS => Or.inl ⟨w', ?_, hS⟩⟩) ?_
  rotate_left
  · go_simp
    all_goals with_reducible rfl
  simp only [Act.put, List.setIfInBounds_toArray, List.set_cons_zero, List.set_cons_succ]
  refine det_take (v := ?_) (i := 4) (fuel := 40) (by simp; rfl) (by kernel_rfl) (by kernel_rfl) (by kernel_rfl) (Or.inl ⟨by rfl, fun w' hS => Or.inl ⟨w', ?_, hS⟩⟩) ?_
  rotate_left
  · go_simp
    all_goals with_reducible rfl
  simp only [Act.put, List.setIfInBounds_toArray, List.set_cons_zero, List.set_cons_succ]
  refine det_take (v := ?_) (i := 5) (fuel := 39) (by simp; rfl) (by kernel_rfl) (by kernel_rfl) (by kernel_rfl) (Or.inl ⟨by rfl, fun w' hS => Or.inl ⟨w', ?_, hS⟩⟩) ?_
  rotate_left
  · go_simp
    all_goals with_reducible rfl
  simp only [Act.put, List.setIfInBounds_toArray, List.set_cons_zero, List.set_cons_succ]
  refine det_take (v := ?_) (i := 6) (fuel := 38) (by simp; rfl) (by kernel_rfl) (by kernel_rfl) (by kernel_rfl) (Or.inl ⟨by rfl, fun w' hS => Or.inl ⟨w', ?_, hS⟩⟩) ?_
  rotate_left
  · go_simp
    all_goals with_reducible rfl
  simp only [Act.put, List.setIfInBounds_toArray, List.set_cons_zero, List.set_cons_succ]
  refine det_take (v := ?_) (i := 7) (fuel := 37) (by simp; rfl) (by kernel_rfl) (by kernel_rfl) (by kernel_rfl) (Or.inl ⟨by rfl, fun w' hS => Or.inl ⟨w', ?_, hS⟩⟩) ?_
  rotate_left
  · go_simp
    all_goals with_reducible rfl
  simp only [Act.put, List.setIfInBounds_toArray, List.set_cons_zero, List.set_cons_succ]
  refine det_take (v := ?_) (i := 8) (fuel := 36) (by simp; rfl) (by kernel_rfl) (by kernel_rfl) (by kernel_rfl) (Or.inl ⟨by rfl, fun w' hS => Or.inl ⟨w', ?_, hS⟩⟩) ?_
  rotate_left
  · go_simp
    all_goals with_reducible rfl
  simp only [Act.put, List.setIfInBounds_toArray, List.set_cons_zero, List.set_cons_succ]
  refine det_take (v := ?_) (i := 9) (fuel := 35) (by simp; rfl) (by kernel_rfl) (by kernel_rfl) (by kernel_rfl) (Or.inl ⟨by rfl, fun w' hS => Or.inl ⟨w', ?_, hS⟩⟩) ?_
  rotate_left
  · go_simp
    all_goals with_reducible rfl
  simp only [Act.put, List.setIfInBounds_toArray, List.set_cons_zero, List.set_cons_succ]
  refine det_take (v := ?_) (i := 10) (fuel := 34) (by simp; rfl) (by kernel_rfl) (by kernel_rfl) (by kernel_rfl) (Or.inl ⟨by rfl, fun w' hS => Or.inl ⟨w', ?_, hS⟩⟩) ?_
  rotate_left
  · go_simp
    all_goals with_reducible rfl
  simp only [Act.put, List.setIfInBounds_toArray, List.set_cons_zero, List.set_cons_succ]
  refine det_take (v := ?_) (i := 11) (fuel := 33) (by simp; rfl) (by kernel_rfl) (by kernel_rfl) (by kernel_rfl) (Or.inl ⟨by rfl, fun w' hS => Or.inl ⟨w', ?_, hS⟩⟩) ?_
  rotate_left
  · obtain ⟨-, c0, c1, c2, c3⟩ := HB.dec (t := 25) (g := w4.heap.size) (a := .bool n4) (b := .int .u64 a4) (c := .int .u64 b4) (d := .int .i64 r) hS (by simp)
    go_simp
    all_goals with_reducible rfl
  simp only [Act.put, List.setIfInBounds_toArray, List.set_cons_zero, List.set_cons_succ]
  refine det_take (v := ?_) (i := 12) (fuel := 32) (by simp; rfl) (by kernel_rfl) (by kernel_rfl) (by kernel_rfl) (Or.inl ⟨by rfl, fun w' hS => Or.inl ⟨w', ?_, hS⟩⟩) ?_
  rotate_left
  · obtain ⟨-, c0, c1, c2, c3⟩ := HB.dec (t := 25) (g := w5.heap.size) (a := .bool n4) (b := .int .u64 a4) (c := .int .u64 b4) (d := .int .i64 r) hS (by simp)
    go_simp
    all_goals with_reducible rfl
  simp only [Act.put, List.setIfInBounds_toArray, List.set_cons_zero, List.set_cons_succ]
  refine det_take (v := ?_) (i := 13) (fuel := 31) (by simp; rfl) (by kernel_rfl) (by kernel_rfl) (by kernel_rfl) (Or.inl ⟨by rfl, fun w' hS => Or.inl ⟨w', ?_, hS⟩⟩) ?_
  rotate_left
  · go_simp
    all_goals with_reducible rfl
  simp only [Act.put, List.setIfInBounds_toArray, List.set_cons_zero, List.set_cons_succ]
  refine det_take (v := ?_) (i := 14) (fuel := 30) (by simp; rfl) (by kernel_rfl) (by kernel_rfl) (by kernel_rfl) (Or.inl ⟨by rfl, fun w' hS => Or.inl ⟨w', ?_, hS⟩⟩) ?_
  rotate_left
  · go_simp
    all_goals with_reducible rfl
  simp only [Act.put, List.setIfInBounds_toArray, List.set_cons_zero, List.set_cons_succ]
  refine det_take (v := ?_) (i := 15) (fuel := 29) (by simp; rfl) (by kernel_rfl) (by kernel_rfl) (by kernel_rfl) (Or.inl ⟨by rfl, fun w' hS => Or.inl ⟨w', ?_, hS⟩⟩) ?_
  rotate_left
  · go_simp
    all_goals with_reducible rfl
  simp only [Act.put, List.setIfInBounds_toArray, List.set_cons_zero, List.set_cons_succ]
  refine det_take (v := ?_) (i := 16) (fuel := 28) (by simp; rfl) (by kernel_rfl) (by kernel_rfl) (by kernel_rfl) (Or.inl ⟨by rfl, fun w' hS => Or.inl ⟨w', ?_, hS⟩⟩) ?_
  rotate_left
  · obtain ⟨-, c0, c1, c2, c3⟩ := HB.dec (t := 25) (g := w6.heap.size) (a := .bool n6) (b := .int .u64 a6) (c := .int .u64 b6) (d := .int .i64 r) hS (by simp)
    go_simp
    all_goals with_reducible rfl
  simp only [Act.put, List.setIfInBounds_toArray, List.set_cons_zero, List.set_cons_succ]
  refine det_take (v := ?_) (i := 17) (fuel := 27) (by simp; rfl) (by kernel_rfl) (by kernel_rfl) (by kernel_rfl) (Or.inl ⟨by rfl, fun w' hS => Or.inl ⟨w', ?_, hS⟩⟩) ?_
  rotate_left
  · obtain ⟨-, c0, c1, c2, c3⟩ := HB.dec (t := 25) (g := w1.heap.size) (a := .bool n1) (b := .int .u64 a1) (c := .int .u64 b1) (d := .int .i64 s) hS (by simp)
    go_simp
    all_goals with_reducible rfl
  simp only [Act.put, List.setIfInBounds_toArray, List.set_cons_zero, List.set_cons_succ]
  refine det_take (v := ?_) (i := 18) (fuel := 26) (by simp; rfl) (by kernel_rfl) (by kernel_rfl) (by kernel_rfl) (Or.inl ⟨by rfl, fun w' hS => Or.inr ⟨27, #[.agg #[.bool n6, .int .u64 a6, .int .u64 b6, .int .i64 r], .agg #[.bool n1, .int .u64 a1, .int .u64 b1, .int .i64 s]], w', ?_, ?_⟩⟩) ?_
  rotate_left
  · go_simp
    all_goals with_reducible rfl
  · exact (cmp_v n6 a6 b6 r X n1 a1 b1 s x r 0 _ D6 D1 SbX.out SX.out lr ls r9 s9 (Or.inr ⟨sr, rfl⟩) hq6).mono fun e w2 ⟨_, hv, he, hb⟩ => ⟨by rw [he, hv], HB.below hS hb⟩
  simp only [Act.put, List.setIfInBounds_toArray, List.set_cons_zero, List.set_cons_succ]
  refine det_take (v := ?_) (i := 19) (fuel := 25) (by simp; rfl) (by kernel_rfl) (by kernel_rfl) (by kernel_rfl) (Or.inl ⟨by rfl, fun w' hS => Or.inl ⟨w', ?_, hS⟩⟩) ?_
  rotate_left
  · go_simp
    all_goals with_reducible rfl
  simp only [Act.put, List.setIfInBounds_toArray, List.set_cons_zero, List.set_cons_succ]
  refine det_take (v := ?_) (i := 20) (fuel := 24) (by simp; rfl) (by kernel_rfl) (by kernel_rfl) (by kernel_rfl) (Or.inl ⟨by rfl, fun w' hS => Or.inl ⟨w', ?_, hS⟩⟩) ?_
  rotate_left
  · go_simp
    all_goals with_reducible rfl
  simp only [Act.put, List.setIfInBounds_toArray, List.set_cons_zero, List.set_cons_succ]
  refine det_take (v := ?_) (i := 21) (fuel := 23) (by simp; rfl) (by kernel_rfl) (by kernel_rfl) (by kernel_rfl) (Or.inl ⟨by rfl, fun w' hS => Or.inl ⟨w', ?_, hS⟩⟩) ?_
  rotate_left
  · go_simp
    all_goals with_reducible rfl
  simp only [Act.put, List.setIfInBounds_toArray, List.set_cons_zero, List.set_cons_succ]
  refine det_take (v := ?_) (i := 22) (fuel := 22) (by simp; rfl) (by kernel_rfl) (by kernel_rfl) (by kernel_rfl) (Or.inl ⟨by rfl, fun w' hS => Or.inl ⟨w', ?_, hS⟩⟩) ?_
  rotate_left
  · obtain ⟨-, c0, c1, c2, c3⟩ := HB.dec (t := 25) (g := w7.heap.size) (a := .bool n7) (b := .int .u64 a7) (c := .int .u64 b7) (d := .int .i64 (r + u)) hS (by simp)
    go_simp
    all_goals with_reducible rfl
  simp only [Act.put, List.setIfInBounds_toArray, List.set_cons_zero, List.set_cons_succ]
  refine det_take (v := ?_) (i := 23) (fuel := 21) (by simp; rfl) (by kernel_rfl) (by kernel_rfl) (by kernel_rfl) (Or.inl ⟨by rfl, fun w' hS => Or.inl ⟨w', ?_, hS⟩⟩) ?_
  rotate_left
  · obtain ⟨-, c0, c1, c2, c3⟩ := HB.dec (t := 25) (g := w10.heap.size) (a := .bool n7) (b := .int .u64 a7) (c := .int .u64 b7) (d := .int .i64 (r + u)) hS (by simp)
    go_simp
    all_goals with_reducible rfl
  simp only [Act.put, List.setIfInBounds_toArray, List.set_cons_zero, List.set_cons_succ]
  refine det_take (v := ?_) (i := 24) (fuel := 20) (by simp; rfl) (by kernel_rfl) (by kernel_rfl) (by kernel_rfl) (Or.inl ⟨by rfl, fun w' hS => Or.inr ⟨27, #[.agg #[.bool n7, .int .u64 a7, .int .u64 b7, .int .i64 (r + u)], .agg #[.bool n7, .int .u64 a7, .int .u64 b7, .int .i64 (r + u)]], w', ?_, ?_⟩⟩) ?_
  rotate_left
  · go_simp
    all_goals with_reducible rfl
  · exact (cmp_v n7 a7 b7 (r + u) ((X + Y) * z) n7 a7 b7 (r + u) ((X + Y) * z) (r + u) 0 _ D7 D7 SPZ.out SPZ.out lru lru ru9 ru9 (Or.inr ⟨Int.le_refl _, rfl⟩) hq7).mono fun e w2 ⟨_, hv, he, hb⟩ => ⟨by rw [he, hv], HB.below hS hb⟩
  simp only [Act.put, List.setIfInBounds_toArray, List.set_cons_zero, List.set_cons_succ]
  refine det_take (v := ?_) (i := 25) (fuel := 19) (by simp; rfl) (by kernel_rfl) (by kernel_rfl) (by kernel_rfl) (Or.inl ⟨by rfl, fun w' hS => Or.inl ⟨w', ?_, hS⟩⟩) ?_
  rotate_left
  · go_simp
    all_goals with_reducible rfl
  simp only [Act.put, List.setIfInBounds_toArray, List.set_cons_zero, List.set_cons_succ]
  refine det_take (v := ?_) (i := 26) (fuel := 18) (by simp; rfl) (by kernel_rfl) (by kernel_rfl) (by kernel_rfl) (Or.inl ⟨by rfl, fun w' hS => Or.inl ⟨w', ?_, hS⟩⟩) ?_
  rotate_left
  · go_simp
    all_goals with_reducible rfl
  simp only [Act.put, List.setIfInBounds_toArray, List.set_cons_zero, List.set_cons_succ]
  refine det_take (v := ?_) (i := 27) (fuel := 17) (by simp; rfl) (by kernel_rfl) (by kernel_rfl) (by kernel_rfl) (Or.inl ⟨by rfl, fun w' hS => Or.inl ⟨w', ?_, hS⟩⟩) ?_
  rotate_left
  · go_simp
    all_goals with_reducible rfl
  simp only [Act.put, List.setIfInBounds_toArray, List.set_cons_zero, List.set_cons_succ]
  refine det_take (v := ?_) (i := 28) (fuel := 16) (by simp; rfl) (by kernel_rfl) (by kernel_rfl) (by kernel_rfl) (Or.inl ⟨by rfl, fun w' hS => Or.inl ⟨w', ?_, hS⟩⟩) ?_
  rotate_left
  · obtain ⟨-, c0, c1, c2, c3⟩ := HB.dec (t := 25) (g := w11.heap.size) (a := .bool n11) (b := .int .u64 a11) (c := .int .u64 b11) (d := .int .i64 r) hS (by simp)
    go_simp
    all_goals with_reducible rfl
  simp only [Act.put, List.setIfInBounds_toArray, List.set_cons_zero, List.set_cons_succ]
  refine det_take (v := ?_) (i := 29) (fuel := 15) (by simp; rfl) (by kernel_rfl) (by kernel_rfl) (by kernel_rfl) (Or.inl ⟨by rfl, fun w' hS => Or.inr ⟨25, #[.agg #[.bool n11, .int .u64 a11, .int .u64 b11, .int .i64 r]], w', ?_, ?_⟩⟩) ?_
  rotate_left
  · go_simp
    all_goals with_reducible rfl
  · exact (sign_v n11 a11 b11 r (X - Y) c _ D11 SD.out lr r9 hσ).mono fun e w2 ⟨_, hv, he, hb⟩ => ⟨by rw [he, hv], HB.below hS hb⟩
  simp only [Act.put, List.setIfInBounds_toArray, List.set_cons_zero, List.set_cons_succ]
  refine det_take (v := ?_) (i := 30) (fuel := 14) (by simp; rfl) (by kernel_rfl) (by kernel_rfl) (by kernel_rfl) (Or.inl ⟨by rfl, fun w' hS => Or.inl ⟨w', ?_, hS⟩⟩) ?_
  rotate_left
  · obtain ⟨-, c0, c1, c2, c3⟩ := HB.dec (t := 25) (g := w1.heap.size) (a := .bool n1) (b := .int .u64 a1) (c := .int .u64 b1) (d := .int .i64 s) hS (by simp)
    go_simp
    all_goals with_reducible rfl
  simp only [Act.put, List.setIfInBounds_toArray, List.set_cons_zero, List.set_cons_succ]
  refine det_take (v := ?_) (i := 31) (fuel := 13) (by simp; rfl) (by kernel_rfl) (by kernel_rfl) (by kernel_rfl) (Or.inl ⟨by rfl, fun w' hS => Or.inl ⟨w', ?_, hS⟩⟩) ?_
  rotate_left
  · obtain ⟨-, c0, c1, c2, c3⟩ := HB.dec (t := 25) (g := w2.heap.size) (a := .bool n2) (b := .int .u64 a2) (c := .int .u64 b2) (d := .int .i64 t) hS (by simp)
    go_simp
    all_goals with_reducible rfl
  simp only [Act.put, List.setIfInBounds_toArray, List.set_cons_zero, List.set_cons_succ]
  refine det_take (v := ?_) (i := 32) (fuel := 12) (by simp; rfl) (by kernel_rfl) (by kernel_rfl) (by kernel_rfl) (Or.inl ⟨by rfl, fun w' hS => Or.inr ⟨27, #[.agg #[.bool n1, .int .u64 a1, .int .u64 b1, .int .i64 s], .agg #[.bool n2, .int .u64 a2, .int .u64 b2, .int .i64 t]], w', ?_, ?_⟩⟩) ?_
  rotate_left
  · go_simp
    all_goals with_reducible rfl
  · exact (cmp_v n1 a1 b1 s x n2 a2 b2 t y r c _ D1 D2 SX.out SY.out ls lt s9 t9 hr hq1).mono fun e w2 ⟨_, hv, he, hb⟩ => ⟨by rw [he, hv], HB.below hS hb⟩
  simp only [Act.put, List.setIfInBounds_toArray, List.set_cons_zero, List.set_cons_succ]
  refine det_take (v := ?_) (i := 33) (fuel := 11) (by simp; rfl) (by kernel_rfl) (by kernel_rfl) (by kernel_rfl) (Or.inl ⟨by rfl, fun w' hS => Or.inl ⟨w', ?_, hS⟩⟩) ?_
  rotate_left
  · go_simp
    all_goals with_reducible rfl
  simp only [Act.put, List.setIfInBounds_toArray, List.set_cons_zero, List.set_cons_succ]
  refine det_take (v := ?_) (i := 34) (fuel := 10) (by simp; rfl) (by kernel_rfl) (by kernel_rfl) (by kernel_rfl) (Or.inl ⟨by rfl, fun w' hS => Or.inl ⟨w', ?_, hS⟩⟩) ?_
  rotate_left
  · go_simp
    all_goals with_reducible rfl
  simp only [Act.put, List.setIfInBounds_toArray, List.set_cons_zero, List.set_cons_succ]
  refine det_take (v := ?_) (i := 35) (fuel := 9) (by simp; rfl) (by kernel_rfl) (by kernel_rfl) (by kernel_rfl) (Or.inl ⟨by rfl, fun w' hS => Or.inl ⟨w', ?_, hS⟩⟩) ?_
  rotate_left
  · go_simp
    all_goals with_reducible rfl
  simp only [Act.put, List.setIfInBounds_toArray, List.set_cons_zero, List.set_cons_succ]
  refine det_take (v := ?_) (i := 36) (fuel := 8) (by simp; rfl) (by kernel_rfl) (by kernel_rfl) (by kernel_rfl) (Or.inl ⟨by rfl, fun w' hS => Or.inl ⟨w', ?_, hS⟩⟩) ?_
  rotate_left
  · obtain ⟨-, c0, c1, c2, c3⟩ := HB.dec (t := 25) (g := w1.heap.size) (a := .bool n1) (b := .int .u64 a1) (c := .int .u64 b1) (d := .int .i64 s) hS (by simp)
    go_simp
    all_goals with_reducible rfl
  simp only [Act.put, List.setIfInBounds_toArray, List.set_cons_zero, List.set_cons_succ]
  refine det_take (v := ?_) (i := 37) (fuel := 7) (by simp; rfl) (by kernel_rfl) (by kernel_rfl) (by kernel_rfl) (Or.inl ⟨by rfl, fun w' hS => Or.inl ⟨w', ?_, hS⟩⟩) ?_
  rotate_left
  · obtain ⟨-, c0, c1, c2, c3⟩ := HB.dec (t := 25) (g := w2.heap.size) (a := .bool n2) (b := .int .u64 a2) (c := .int .u64 b2) (d := .int .i64 t) hS (by simp)
    go_simp
    all_goals with_reducible rfl
  simp only [Act.put, List.setIfInBounds_toArray, List.set_cons_zero, List.set_cons_succ]
  refine det_take (v := ?_) (i := 38) (fuel := 6) (by simp; rfl) (by kernel_rfl) (by kernel_rfl) (by kernel_rfl) (Or.inl ⟨by rfl, fun w' hS => Or.inr ⟨27, #[.agg #[.bool n1, .int .u64 a1, .int .u64 b1, .int .i64 s], .agg #[.bool n2, .int .u64 a2, .int .u64 b2, .int .i64 t]], w', ?_, ?_⟩⟩) ?_
  rotate_left
  · go_simp
    all_goals with_reducible rfl
  · exact (cmp_v n1 a1 b1 s x n2 a2 b2 t y r c _ D1 D2 SX.out SY.out ls lt s9 t9 hr hq1).mono fun e w2 ⟨_, hv, he, hb⟩ => ⟨by rw [he, hv], HB.below hS hb⟩
  simp only [Act.put, List.setIfInBounds_toArray, List.set_cons_zero, List.set_cons_succ]
  refine det_take (v := ?_) (i := 39) (fuel := 5) (by simp; rfl) (by kernel_rfl) (by kernel_rfl) (by kernel_rfl) (Or.inl ⟨by rfl, fun w' hS => Or.inl ⟨w', ?_, hS⟩⟩) ?_
  rotate_left
  · obtain ⟨-, c0, c1, c2, c3⟩ := HB.dec (t := 25) (g := w2.heap.size) (a := .bool n2) (b := .int .u64 a2) (c := .int .u64 b2) (d := .int .i64 t) hS (by simp)
    go_simp
    all_goals with_reducible rfl
  simp only [Act.put, List.setIfInBounds_toArray, List.set_cons_zero, List.set_cons_succ]
  refine det_take (v := ?_) (i := 40) (fuel := 4) (by simp; rfl) (by kernel_rfl) (by kernel_rfl) (by kernel_rfl) (Or.inl ⟨by rfl, fun w' hS => Or.inl ⟨w', ?_, hS⟩⟩) ?_
  rotate_left
  · obtain ⟨-, c0, c1, c2, c3⟩ := HB.dec (t := 25) (g := w1.heap.size) (a := .bool n1) (b := .int .u64 a1) (c := .int .u64 b1) (d := .int .i64 s) hS (by simp)
    go_simp
    all_goals with_reducible rfl
  simp only [Act.put, List.setIfInBounds_toArray, List.set_cons_zero, List.set_cons_succ]
  refine det_take (v := ?_) (i := 41) (fuel := 3) (by simp; rfl) (by kernel_rfl) (by kernel_rfl) (by kernel_rfl) (Or.inl ⟨by rfl, fun w' hS => Or.inr ⟨27, #[.agg #[.bool n2, .int .u64 a2, .int .u64 b2, .int .i64 t], .agg #[.bool n1, .int .u64 a1, .int .u64 b1, .int .i64 s]], w', ?_, ?_⟩⟩) ?_
  rotate_left
  · go_simp
    all_goals with_reducible rfl
  · exact (cmp_v n2 a2 b2 t y n1 a1 b1 s x r c' _ D2 D1 SY.out SX.out lt ls t9 s9 hr2 hq2).mono fun e w2 ⟨_, hv, he, hb⟩ => ⟨by rw [he, hv], HB.below hS hb⟩
  simp only [Act.put, List.setIfInBounds_toArray, List.set_cons_zero, List.set_cons_succ]
  refine det_take (v := ?_) (i := 42) (fuel := 2) (by simp; rfl) (by kernel_rfl) (by kernel_rfl) (by kernel_rfl) (Or.inl ⟨by rfl, fun w' hS => Or.inl ⟨w', ?_, hS⟩⟩) ?_
  rotate_left
  · go_simp
    all_goals with_reducible rfl
  simp only [Act.put, List.setIfInBounds_toArray, List.set_cons_zero, List.set_cons_succ]
  refine det_take (v := ?_) (i := 43) (fuel := 1) (by simp; rfl) (by kernel_rfl) (by kernel_rfl) (by kernel_rfl) (Or.inl ⟨by rfl, fun w' hS => Or.inl ⟨w', ?_, hS⟩⟩) ?_
  rotate_left
  · go_simp
    all_goals with_reducible rfl
  simp only [Act.put, List.setIfInBounds_toArray, List.set_cons_zero, List.set_cons_succ]
  refine det_take (v := ?_) (i := 44) (fuel := 0) (by simp; rfl) (by kernel_rfl) (by kernel_rfl) (by kernel_rfl) (Or.inl ⟨by rfl, fun w' hS => Or.inl ⟨w', ?_, hS⟩⟩) ?_
  rotate_left
  · go_simp
    all_goals with_reducible rfl
  simp only [Act.put, List.setIfInBounds_toArray, List.set_cons_zero, List.set_cons_succ]
  refine det_done (by kernel_rfl) (fun w' hS => ?_) _
  clear V
  clear g1 p10 p11 p12 p13 g2 p20 p21 p22 p23 g3 p30 p31 p32 p33 g4 p40 p41 p42 p43 g5 p50 p51 p52 p53 g6 p60 p61 p62 p63 g7 p70 p71 p72 p73 g8 p80 p81 p82 p83 g9 p90 p91 p92 p93 g10 p100 p101 p102 p103
  clear q4
  rcases C3.out with rfl | rfl | rfl
  · rcases D3'.out with rfl | rfl | rfl
    · have hf0 := TRI.out (by decide) (by decide)
      rcases F3.out with rfl | rfl | rfl
      · skip
        obtain ⟨g1, p10, p11, p12, p13⟩ := HB.dec (t := 25) (g := w1.heap.size) (a := .bool n1) (b := .int .u64 a1) (c := .int .u64 b1) (d := .int .i64 s) hS (by simp)
        obtain ⟨g2, p20, p21, p22, p23⟩ := HB.dec (t := 25) (g := w2.heap.size) (a := .bool n2) (b := .int .u64 a2) (c := .int .u64 b2) (d := .int .i64 t) hS (by simp)
        obtain ⟨g3, p30, p31, p32, p33⟩ := HB.dec (t := 25) (g := w3.heap.size) (a := .bool n3) (b := .int .u64 a3) (c := .int .u64 b3) (d := .int .i64 u) hS (by simp)
        go_wp2_with fail
        refine (cmp_v n1 a1 b1 s x n2 a2 b2 t y r (-1) _ D1 D2 SX.out SY.out ls lt s9 t9 hr hq1).mono ?_
        rintro e wc0 ⟨_, rfl, rfl, hb⟩
        replace hS := HB.below hS hb
        clear hb g1 p10 p11 p12 p13 g2 p20 p21 p22 p23 g3 p30 p31 p32 p33
        obtain ⟨g1, p10, p11, p12, p13⟩ := HB.dec (t := 25) (g := w1.heap.size) (a := .bool n1) (b := .int .u64 a1) (c := .int .u64 b1) (d := .int .i64 s) hS (by simp)
        obtain ⟨g2, p20, p21, p22, p23⟩ := HB.dec (t := 25) (g := w2.heap.size) (a := .bool n2) (b := .int .u64 a2) (c := .int .u64 b2) (d := .int .i64 t) hS (by simp)
        obtain ⟨g3, p30, p31, p32, p33⟩ := HB.dec (t := 25) (g := w3.heap.size) (a := .bool n3) (b := .int .u64 a3) (c := .int .u64 b3) (d := .int .i64 u) hS (by simp)
        go_wp2_with fail
        refine (cmp_v n2 a2 b2 t y n3 a3 b3 u z r2 (-1) _ D2 D3 SY.out SZ.out lt lu t9 u9 hyz hd).mono ?_
        rintro e wc1 ⟨_, rfl, rfl, hb⟩
        replace hS := HB.below hS hb
        clear hb g1 p10 p11 p12 p13 g2 p20 p21 p22 p23 g3 p30 p31 p32 p33
        obtain ⟨g1, p10, p11, p12, p13⟩ := HB.dec (t := 25) (g := w1.heap.size) (a := .bool n1) (b := .int .u64 a1) (c := .int .u64 b1) (d := .int .i64 s) hS (by simp)
        obtain ⟨g2, p20, p21, p22, p23⟩ := HB.dec (t := 25) (g := w2.heap.size) (a := .bool n2) (b := .int .u64 a2) (c := .int .u64 b2) (d := .int .i64 t) hS (by simp)
        obtain ⟨g3, p30, p31, p32, p33⟩ := HB.dec (t := 25) (g := w3.heap.size) (a := .bool n3) (b := .int .u64 a3) (c := .int .u64 b3) (d := .int .i64 u) hS (by simp)
        go_wp2_with fail
        refine (cmp_v n1 a1 b1 s x n3 a3 b3 u z r3 (-1) _ D1 D3 SX.out SZ.out ls lu s9 u9 hxz hf).mono ?_
        rintro e wc2 ⟨_, rfl, rfl, hb⟩
        replace hS := HB.below hS hb
        clear hb g1 p10 p11 p12 p13 g2 p20 p21 p22 p23 g3 p30 p31 p32 p33
        go_wp2
        go_ret
        exact ⟨_, rfl, rfl, HB.bel hS⟩
      · skip
        obtain ⟨g1, p10, p11, p12, p13⟩ := HB.dec (t := 25) (g := w1.heap.size) (a := .bool n1) (b := .int .u64 a1) (c := .int .u64 b1) (d := .int .i64 s) hS (by simp)
        obtain ⟨g2, p20, p21, p22, p23⟩ := HB.dec (t := 25) (g := w2.heap.size) (a := .bool n2) (b := .int .u64 a2) (c := .int .u64 b2) (d := .int .i64 t) hS (by simp)
        obtain ⟨g3, p30, p31, p32, p33⟩ := HB.dec (t := 25) (g := w3.heap.size) (a := .bool n3) (b := .int .u64 a3) (c := .int .u64 b3) (d := .int .i64 u) hS (by simp)
        go_wp2_with fail
        refine (cmp_v n1 a1 b1 s x n2 a2 b2 t y r (-1) _ D1 D2 SX.out SY.out ls lt s9 t9 hr hq1).mono ?_
        rintro e wc0 ⟨_, rfl, rfl, hb⟩
        replace hS := HB.below hS hb
        clear hb g1 p10 p11 p12 p13 g2 p20 p21 p22 p23 g3 p30 p31 p32 p33
        obtain ⟨g1, p10, p11, p12, p13⟩ := HB.dec (t := 25) (g := w1.heap.size) (a := .bool n1) (b := .int .u64 a1) (c := .int .u64 b1) (d := .int .i64 s) hS (by simp)
        obtain ⟨g2, p20, p21, p22, p23⟩ := HB.dec (t := 25) (g := w2.heap.size) (a := .bool n2) (b := .int .u64 a2) (c := .int .u64 b2) (d := .int .i64 t) hS (by simp)
        obtain ⟨g3, p30, p31, p32, p33⟩ := HB.dec (t := 25) (g := w3.heap.size) (a := .bool n3) (b := .int .u64 a3) (c := .int .u64 b3) (d := .int .i64 u) hS (by simp)
        go_wp2_with fail
        refine (cmp_v n2 a2 b2 t y n3 a3 b3 u z r2 (-1) _ D2 D3 SY.out SZ.out lt lu t9 u9 hyz hd).mono ?_
        rintro e wc1 ⟨_, rfl, rfl, hb⟩
        replace hS := HB.below hS hb
        clear hb g1 p10 p11 p12 p13 g2 p20 p21 p22 p23 g3 p30 p31 p32 p33
        obtain ⟨g1, p10, p11, p12, p13⟩ := HB.dec (t := 25) (g := w1.heap.size) (a := .bool n1) (b := .int .u64 a1) (c := .int .u64 b1) (d := .int .i64 s) hS (by simp)
        obtain ⟨g2, p20, p21, p22, p23⟩ := HB.dec (t := 25) (g := w2.heap.size) (a := .bool n2) (b := .int .u64 a2) (c := .int .u64 b2) (d := .int .i64 t) hS (by simp)
        obtain ⟨g3, p30, p31, p32, p33⟩ := HB.dec (t := 25) (g := w3.heap.size) (a := .bool n3) (b := .int .u64 a3) (c := .int .u64 b3) (d := .int .i64 u) hS (by simp)
        go_wp2_with fail
        refine (cmp_v n1 a1 b1 s x n3 a3 b3 u z r3 (0) _ D1 D3 SX.out SZ.out ls lu s9 u9 hxz hf).mono ?_
        rintro e wc2 ⟨_, rfl, rfl, hb⟩
        replace hS := HB.below hS hb
        clear hb g1 p10 p11 p12 p13 g2 p20 p21 p22 p23 g3 p30 p31 p32 p33
        go_wp2
        go_ret
        exact ⟨_, rfl, rfl, HB.bel hS⟩
      · exact absurd hf0 (by decide)
    · have hf0 := TRI.out (by decide) (by decide)
      rcases F3.out with rfl | rfl | rfl
      · skip
        obtain ⟨g1, p10, p11, p12, p13⟩ := HB.dec (t := 25) (g := w1.heap.size) (a := .bool n1) (b := .int .u64 a1) (c := .int .u64 b1) (d := .int .i64 s) hS (by simp)
        obtain ⟨g2, p20, p21, p22, p23⟩ := HB.dec (t := 25) (g := w2.heap.size) (a := .bool n2) (b := .int .u64 a2) (c := .int .u64 b2) (d := .int .i64 t) hS (by simp)
        obtain ⟨g3, p30, p31, p32, p33⟩ := HB.dec (t := 25) (g := w3.heap.size) (a := .bool n3) (b := .int .u64 a3) (c := .int .u64 b3) (d := .int .i64 u) hS (by simp)
        go_wp2_with fail
        refine (cmp_v n1 a1 b1 s x n2 a2 b2 t y r (-1) _ D1 D2 SX.out SY.out ls lt s9 t9 hr hq1).mono ?_
        rintro e wc0 ⟨_, rfl, rfl, hb⟩
        replace hS := HB.below hS hb
        clear hb g1 p10 p11 p12 p13 g2 p20 p21 p22 p23 g3 p30 p31 p32 p33
        obtain ⟨g1, p10, p11, p12, p13⟩ := HB.dec (t := 25) (g := w1.heap.size) (a := .bool n1) (b := .int .u64 a1) (c := .int .u64 b1) (d := .int .i64 s) hS (by simp)
        obtain ⟨g2, p20, p21, p22, p23⟩ := HB.dec (t := 25) (g := w2.heap.size) (a := .bool n2) (b := .int .u64 a2) (c := .int .u64 b2) (d := .int .i64 t) hS (by simp)
        obtain ⟨g3, p30, p31, p32, p33⟩ := HB.dec (t := 25) (g := w3.heap.size) (a := .bool n3) (b := .int .u64 a3) (c := .int .u64 b3) (d := .int .i64 u) hS (by simp)
        go_wp2_with fail
        refine (cmp_v n2 a2 b2 t y n3 a3 b3 u z r2 (0) _ D2 D3 SY.out SZ.out lt lu t9 u9 hyz hd).mono ?_
        rintro e wc1 ⟨_, rfl, rfl, hb⟩
        replace hS := HB.below hS hb
        clear hb g1 p10 p11 p12 p13 g2 p20 p21 p22 p23 g3 p30 p31 p32 p33
        obtain ⟨g1, p10, p11, p12, p13⟩ := HB.dec (t := 25) (g := w1.heap.size) (a := .bool n1) (b := .int .u64 a1) (c := .int .u64 b1) (d := .int .i64 s) hS (by simp)
        obtain ⟨g2, p20, p21, p22, p23⟩ := HB.dec (t := 25) (g := w2.heap.size) (a := .bool n2) (b := .int .u64 a2) (c := .int .u64 b2) (d := .int .i64 t) hS (by simp)
        obtain ⟨g3, p30, p31, p32, p33⟩ := HB.dec (t := 25) (g := w3.heap.size) (a := .bool n3) (b := .int .u64 a3) (c := .int .u64 b3) (d := .int .i64 u) hS (by simp)
        go_wp2_with fail
        refine (cmp_v n1 a1 b1 s x n3 a3 b3 u z r3 (-1) _ D1 D3 SX.out SZ.out ls lu s9 u9 hxz hf).mono ?_
        rintro e wc2 ⟨_, rfl, rfl, hb⟩
        replace hS := HB.below hS hb
        clear hb g1 p10 p11 p12 p13 g2 p20 p21 p22 p23 g3 p30 p31 p32 p33
        go_wp2
        go_ret
        exact ⟨_, rfl, rfl, HB.bel hS⟩
      · skip
        obtain ⟨g1, p10, p11, p12, p13⟩ := HB.dec (t := 25) (g := w1.heap.size) (a := .bool n1) (b := .int .u64 a1) (c := .int .u64 b1) (d := .int .i64 s) hS (by simp)
        obtain ⟨g2, p20, p21, p22, p23⟩ := HB.dec (t := 25) (g := w2.heap.size) (a := .bool n2) (b := .int .u64 a2) (c := .int .u64 b2) (d := .int .i64 t) hS (by simp)
        obtain ⟨g3, p30, p31, p32, p33⟩ := HB.dec (t := 25) (g := w3.heap.size) (a := .bool n3) (b := .int .u64 a3) (c := .int .u64 b3) (d := .int .i64 u) hS (by simp)
        go_wp2_with fail
        refine (cmp_v n1 a1 b1 s x n2 a2 b2 t y r (-1) _ D1 D2 SX.out SY.out ls lt s9 t9 hr hq1).mono ?_
        rintro e wc0 ⟨_, rfl, rfl, hb⟩
        replace hS := HB.below hS hb
        clear hb g1 p10 p11 p12 p13 g2 p20 p21 p22 p23 g3 p30 p31 p32 p33
        obtain ⟨g1, p10, p11, p12, p13⟩ := HB.dec (t := 25) (g := w1.heap.size) (a := .bool n1) (b := .int .u64 a1) (c := .int .u64 b1) (d := .int .i64 s) hS (by simp)
        obtain ⟨g2, p20, p21, p22, p23⟩ := HB.dec (t := 25) (g := w2.heap.size) (a := .bool n2) (b := .int .u64 a2) (c := .int .u64 b2) (d := .int .i64 t) hS (by simp)
        obtain ⟨g3, p30, p31, p32, p33⟩ := HB.dec (t := 25) (g := w3.heap.size) (a := .bool n3) (b := .int .u64 a3) (c := .int .u64 b3) (d := .int .i64 u) hS (by simp)
        go_wp2_with fail
        refine (cmp_v n2 a2 b2 t y n3 a3 b3 u z r2 (0) _ D2 D3 SY.out SZ.out lt lu t9 u9 hyz hd).mono ?_
        rintro e wc1 ⟨_, rfl, rfl, hb⟩
        replace hS := HB.below hS hb
        clear hb g1 p10 p11 p12 p13 g2 p20 p21 p22 p23 g3 p30 p31 p32 p33
        obtain ⟨g1, p10, p11, p12, p13⟩ := HB.dec (t := 25) (g := w1.heap.size) (a := .bool n1) (b := .int .u64 a1) (c := .int .u64 b1) (d := .int .i64 s) hS (by simp)
        obtain ⟨g2, p20, p21, p22, p23⟩ := HB.dec (t := 25) (g := w2.heap.size) (a := .bool n2) (b := .int .u64 a2) (c := .int .u64 b2) (d := .int .i64 t) hS (by simp)
        obtain ⟨g3, p30, p31, p32, p33⟩ := HB.dec (t := 25) (g := w3.heap.size) (a := .bool n3) (b := .int .u64 a3) (c := .int .u64 b3) (d := .int .i64 u) hS (by simp)
        go_wp2_with fail
        refine (cmp_v n1 a1 b1 s x n3 a3 b3 u z r3 (0) _ D1 D3 SX.out SZ.out ls lu s9 u9 hxz hf).mono ?_
        rintro e wc2 ⟨_, rfl, rfl, hb⟩
        replace hS := HB.below hS hb
        clear hb g1 p10 p11 p12 p13 g2 p20 p21 p22 p23 g3 p30 p31 p32 p33
        go_wp2
        go_ret
        exact ⟨_, rfl, rfl, HB.bel hS⟩
      · exact absurd hf0 (by decide)
    · skip
      obtain ⟨g1, p10, p11, p12, p13⟩ := HB.dec (t := 25) (g := w1.heap.size) (a := .bool n1) (b := .int .u64 a1) (c := .int .u64 b1) (d := .int .i64 s) hS (by simp)
      obtain ⟨g2, p20, p21, p22, p23⟩ := HB.dec (t := 25) (g := w2.heap.size) (a := .bool n2) (b := .int .u64 a2) (c := .int .u64 b2) (d := .int .i64 t) hS (by simp)
      obtain ⟨g3, p30, p31, p32, p33⟩ := HB.dec (t := 25) (g := w3.heap.size) (a := .bool n3) (b := .int .u64 a3) (c := .int .u64 b3) (d := .int .i64 u) hS (by simp)
      go_wp2_with fail
      refine (cmp_v n1 a1 b1 s x n2 a2 b2 t y r (-1) _ D1 D2 SX.out SY.out ls lt s9 t9 hr hq1).mono ?_
      rintro e wc0 ⟨_, rfl, rfl, hb⟩
      replace hS := HB.below hS hb
      clear hb g1 p10 p11 p12 p13 g2 p20 p21 p22 p23 g3 p30 p31 p32 p33
      obtain ⟨g1, p10, p11, p12, p13⟩ := HB.dec (t := 25) (g := w1.heap.size) (a := .bool n1) (b := .int .u64 a1) (c := .int .u64 b1) (d := .int .i64 s) hS (by simp)
      obtain ⟨g2, p20, p21, p22, p23⟩ := HB.dec (t := 25) (g := w2.heap.size) (a := .bool n2) (b := .int .u64 a2) (c := .int .u64 b2) (d := .int .i64 t) hS (by simp)
      obtain ⟨g3, p30, p31, p32, p33⟩ := HB.dec (t := 25) (g := w3.heap.size) (a := .bool n3) (b := .int .u64 a3) (c := .int .u64 b3) (d := .int .i64 u) hS (by simp)
      go_wp2_with fail
      refine (cmp_v n2 a2 b2 t y n3 a3 b3 u z r2 (1) _ D2 D3 SY.out SZ.out lt lu t9 u9 hyz hd).mono ?_
      rintro e wc1 ⟨_, rfl, rfl, hb⟩
      replace hS := HB.below hS hb
      clear hb g1 p10 p11 p12 p13 g2 p20 p21 p22 p23 g3 p30 p31 p32 p33
      go_wp2
      go_ret
      exact ⟨_, rfl, rfl, HB.bel hS⟩
  · rcases D3'.out with rfl | rfl | rfl
    · have hf0 := TRI.out (by decide) (by decide)
      rcases F3.out with rfl | rfl | rfl
      · skip
        obtain ⟨g1, p10, p11, p12, p13⟩ := HB.dec (t := 25) (g := w1.heap.size) (a := .bool n1) (b := .int .u64 a1) (c := .int .u64 b1) (d := .int .i64 s) hS (by simp)
        obtain ⟨g2, p20, p21, p22, p23⟩ := HB.dec (t := 25) (g := w2.heap.size) (a := .bool n2) (b := .int .u64 a2) (c := .int .u64 b2) (d := .int .i64 t) hS (by simp)
        obtain ⟨g3, p30, p31, p32, p33⟩ := HB.dec (t := 25) (g := w3.heap.size) (a := .bool n3) (b := .int .u64 a3) (c := .int .u64 b3) (d := .int .i64 u) hS (by simp)
        go_wp2_with fail
        refine (cmp_v n1 a1 b1 s x n2 a2 b2 t y r (0) _ D1 D2 SX.out SY.out ls lt s9 t9 hr hq1).mono ?_
        rintro e wc0 ⟨_, rfl, rfl, hb⟩
        replace hS := HB.below hS hb
        clear hb g1 p10 p11 p12 p13 g2 p20 p21 p22 p23 g3 p30 p31 p32 p33
        obtain ⟨g1, p10, p11, p12, p13⟩ := HB.dec (t := 25) (g := w1.heap.size) (a := .bool n1) (b := .int .u64 a1) (c := .int .u64 b1) (d := .int .i64 s) hS (by simp)
        obtain ⟨g2, p20, p21, p22, p23⟩ := HB.dec (t := 25) (g := w2.heap.size) (a := .bool n2) (b := .int .u64 a2) (c := .int .u64 b2) (d := .int .i64 t) hS (by simp)
        obtain ⟨g3, p30, p31, p32, p33⟩ := HB.dec (t := 25) (g := w3.heap.size) (a := .bool n3) (b := .int .u64 a3) (c := .int .u64 b3) (d := .int .i64 u) hS (by simp)
        go_wp2_with fail
        refine (cmp_v n2 a2 b2 t y n3 a3 b3 u z r2 (-1) _ D2 D3 SY.out SZ.out lt lu t9 u9 hyz hd).mono ?_
        rintro e wc1 ⟨_, rfl, rfl, hb⟩
        replace hS := HB.below hS hb
        clear hb g1 p10 p11 p12 p13 g2 p20 p21 p22 p23 g3 p30 p31 p32 p33
        obtain ⟨g1, p10, p11, p12, p13⟩ := HB.dec (t := 25) (g := w1.heap.size) (a := .bool n1) (b := .int .u64 a1) (c := .int .u64 b1) (d := .int .i64 s) hS (by simp)
        obtain ⟨g2, p20, p21, p22, p23⟩ := HB.dec (t := 25) (g := w2.heap.size) (a := .bool n2) (b := .int .u64 a2) (c := .int .u64 b2) (d := .int .i64 t) hS (by simp)
        obtain ⟨g3, p30, p31, p32, p33⟩ := HB.dec (t := 25) (g := w3.heap.size) (a := .bool n3) (b := .int .u64 a3) (c := .int .u64 b3) (d := .int .i64 u) hS (by simp)
        go_wp2_with fail
        refine (cmp_v n1 a1 b1 s x n3 a3 b3 u z r3 (-1) _ D1 D3 SX.out SZ.out ls lu s9 u9 hxz hf).mono ?_
        rintro e wc2 ⟨_, rfl, rfl, hb⟩
        replace hS := HB.below hS hb
        clear hb g1 p10 p11 p12 p13 g2 p20 p21 p22 p23 g3 p30 p31 p32 p33
        go_wp2
        go_ret
        exact ⟨_, rfl, rfl, HB.bel hS⟩
      · skip
        obtain ⟨g1, p10, p11, p12, p13⟩ := HB.dec (t := 25) (g := w1.heap.size) (a := .bool n1) (b := .int .u64 a1) (c := .int .u64 b1) (d := .int .i64 s) hS (by simp)
        obtain ⟨g2, p20, p21, p22, p23⟩ := HB.dec (t := 25) (g := w2.heap.size) (a := .bool n2) (b := .int .u64 a2) (c := .int .u64 b2) (d := .int .i64 t) hS (by simp)
        obtain ⟨g3, p30, p31, p32, p33⟩ := HB.dec (t := 25) (g := w3.heap.size) (a := .bool n3) (b := .int .u64 a3) (c := .int .u64 b3) (d := .int .i64 u) hS (by simp)
        go_wp2_with fail
        refine (cmp_v n1 a1 b1 s x n2 a2 b2 t y r (0) _ D1 D2 SX.out SY.out ls lt s9 t9 hr hq1).mono ?_
        rintro e wc0 ⟨_, rfl, rfl, hb⟩
        replace hS := HB.below hS hb
        clear hb g1 p10 p11 p12 p13 g2 p20 p21 p22 p23 g3 p30 p31 p32 p33
        obtain ⟨g1, p10, p11, p12, p13⟩ := HB.dec (t := 25) (g := w1.heap.size) (a := .bool n1) (b := .int .u64 a1) (c := .int .u64 b1) (d := .int .i64 s) hS (by simp)
        obtain ⟨g2, p20, p21, p22, p23⟩ := HB.dec (t := 25) (g := w2.heap.size) (a := .bool n2) (b := .int .u64 a2) (c := .int .u64 b2) (d := .int .i64 t) hS (by simp)
        obtain ⟨g3, p30, p31, p32, p33⟩ := HB.dec (t := 25) (g := w3.heap.size) (a := .bool n3) (b := .int .u64 a3) (c := .int .u64 b3) (d := .int .i64 u) hS (by simp)
        go_wp2_with fail
        refine (cmp_v n2 a2 b2 t y n3 a3 b3 u z r2 (-1) _ D2 D3 SY.out SZ.out lt lu t9 u9 hyz hd).mono ?_
        rintro e wc1 ⟨_, rfl, rfl, hb⟩
        replace hS := HB.below hS hb
        clear hb g1 p10 p11 p12 p13 g2 p20 p21 p22 p23 g3 p30 p31 p32 p33
        obtain ⟨g1, p10, p11, p12, p13⟩ := HB.dec (t := 25) (g := w1.heap.size) (a := .bool n1) (b := .int .u64 a1) (c := .int .u64 b1) (d := .int .i64 s) hS (by simp)
        obtain ⟨g2, p20, p21, p22, p23⟩ := HB.dec (t := 25) (g := w2.heap.size) (a := .bool n2) (b := .int .u64 a2) (c := .int .u64 b2) (d := .int .i64 t) hS (by simp)
        obtain ⟨g3, p30, p31, p32, p33⟩ := HB.dec (t := 25) (g := w3.heap.size) (a := .bool n3) (b := .int .u64 a3) (c := .int .u64 b3) (d := .int .i64 u) hS (by simp)
        go_wp2_with fail
        refine (cmp_v n1 a1 b1 s x n3 a3 b3 u z r3 (0) _ D1 D3 SX.out SZ.out ls lu s9 u9 hxz hf).mono ?_
        rintro e wc2 ⟨_, rfl, rfl, hb⟩
        replace hS := HB.below hS hb
        clear hb g1 p10 p11 p12 p13 g2 p20 p21 p22 p23 g3 p30 p31 p32 p33
        go_wp2
        go_ret
        exact ⟨_, rfl, rfl, HB.bel hS⟩
      · exact absurd hf0 (by decide)
    · have hf0 := TRI.out (by decide) (by decide)
      rcases F3.out with rfl | rfl | rfl
      · skip
        obtain ⟨g1, p10, p11, p12, p13⟩ := HB.dec (t := 25) (g := w1.heap.size) (a := .bool n1) (b := .int .u64 a1) (c := .int .u64 b1) (d := .int .i64 s) hS (by simp)
        obtain ⟨g2, p20, p21, p22, p23⟩ := HB.dec (t := 25) (g := w2.heap.size) (a := .bool n2) (b := .int .u64 a2) (c := .int .u64 b2) (d := .int .i64 t) hS (by simp)
        obtain ⟨g3, p30, p31, p32, p33⟩ := HB.dec (t := 25) (g := w3.heap.size) (a := .bool n3) (b := .int .u64 a3) (c := .int .u64 b3) (d := .int .i64 u) hS (by simp)
        go_wp2_with fail
        refine (cmp_v n1 a1 b1 s x n2 a2 b2 t y r (0) _ D1 D2 SX.out SY.out ls lt s9 t9 hr hq1).mono ?_
        rintro e wc0 ⟨_, rfl, rfl, hb⟩
        replace hS := HB.below hS hb
        clear hb g1 p10 p11 p12 p13 g2 p20 p21 p22 p23 g3 p30 p31 p32 p33
        obtain ⟨g1, p10, p11, p12, p13⟩ := HB.dec (t := 25) (g := w1.heap.size) (a := .bool n1) (b := .int .u64 a1) (c := .int .u64 b1) (d := .int .i64 s) hS (by simp)
        obtain ⟨g2, p20, p21, p22, p23⟩ := HB.dec (t := 25) (g := w2.heap.size) (a := .bool n2) (b := .int .u64 a2) (c := .int .u64 b2) (d := .int .i64 t) hS (by simp)
        obtain ⟨g3, p30, p31, p32, p33⟩ := HB.dec (t := 25) (g := w3.heap.size) (a := .bool n3) (b := .int .u64 a3) (c := .int .u64 b3) (d := .int .i64 u) hS (by simp)
        go_wp2_with fail
        refine (cmp_v n2 a2 b2 t y n3 a3 b3 u z r2 (0) _ D2 D3 SY.out SZ.out lt lu t9 u9 hyz hd).mono ?_
        rintro e wc1 ⟨_, rfl, rfl, hb⟩
        replace hS := HB.below hS hb
        clear hb g1 p10 p11 p12 p13 g2 p20 p21 p22 p23 g3 p30 p31 p32 p33
        obtain ⟨g1, p10, p11, p12, p13⟩ := HB.dec (t := 25) (g := w1.heap.size) (a := .bool n1) (b := .int .u64 a1) (c := .int .u64 b1) (d := .int .i64 s) hS (by simp)
        obtain ⟨g2, p20, p21, p22, p23⟩ := HB.dec (t := 25) (g := w2.heap.size) (a := .bool n2) (b := .int .u64 a2) (c := .int .u64 b2) (d := .int .i64 t) hS (by simp)
        obtain ⟨g3, p30, p31, p32, p33⟩ := HB.dec (t := 25) (g := w3.heap.size) (a := .bool n3) (b := .int .u64 a3) (c := .int .u64 b3) (d := .int .i64 u) hS (by simp)
        go_wp2_with fail
        refine (cmp_v n1 a1 b1 s x n3 a3 b3 u z r3 (-1) _ D1 D3 SX.out SZ.out ls lu s9 u9 hxz hf).mono ?_
        rintro e wc2 ⟨_, rfl, rfl, hb⟩
        replace hS := HB.below hS hb
        clear hb g1 p10 p11 p12 p13 g2 p20 p21 p22 p23 g3 p30 p31 p32 p33
        go_wp2
        go_ret
        exact ⟨_, rfl, rfl, HB.bel hS⟩
      · skip
        obtain ⟨g1, p10, p11, p12, p13⟩ := HB.dec (t := 25) (g := w1.heap.size) (a := .bool n1) (b := .int .u64 a1) (c := .int .u64 b1) (d := .int .i64 s) hS (by simp)
        obtain ⟨g2, p20, p21, p22, p23⟩ := HB.dec (t := 25) (g := w2.heap.size) (a := .bool n2) (b := .int .u64 a2) (c := .int .u64 b2) (d := .int .i64 t) hS (by simp)
        obtain ⟨g3, p30, p31, p32, p33⟩ := HB.dec (t := 25) (g := w3.heap.size) (a := .bool n3) (b := .int .u64 a3) (c := .int .u64 b3) (d := .int .i64 u) hS (by simp)
        go_wp2_with fail
        refine (cmp_v n1 a1 b1 s x n2 a2 b2 t y r (0) _ D1 D2 SX.out SY.out ls lt s9 t9 hr hq1).mono ?_
        rintro e wc0 ⟨_, rfl, rfl, hb⟩
        replace hS := HB.below hS hb
        clear hb g1 p10 p11 p12 p13 g2 p20 p21 p22 p23 g3 p30 p31 p32 p33
        obtain ⟨g1, p10, p11, p12, p13⟩ := HB.dec (t := 25) (g := w1.heap.size) (a := .bool n1) (b := .int .u64 a1) (c := .int .u64 b1) (d := .int .i64 s) hS (by simp)
        obtain ⟨g2, p20, p21, p22, p23⟩ := HB.dec (t := 25) (g := w2.heap.size) (a := .bool n2) (b := .int .u64 a2) (c := .int .u64 b2) (d := .int .i64 t) hS (by simp)
        obtain ⟨g3, p30, p31, p32, p33⟩ := HB.dec (t := 25) (g := w3.heap.size) (a := .bool n3) (b := .int .u64 a3) (c := .int .u64 b3) (d := .int .i64 u) hS (by simp)
        go_wp2_with fail
        refine (cmp_v n2 a2 b2 t y n3 a3 b3 u z r2 (0) _ D2 D3 SY.out SZ.out lt lu t9 u9 hyz hd).mono ?_
        rintro e wc1 ⟨_, rfl, rfl, hb⟩
        replace hS := HB.below hS hb
        clear hb g1 p10 p11 p12 p13 g2 p20 p21 p22 p23 g3 p30 p31 p32 p33
        obtain ⟨g1, p10, p11, p12, p13⟩ := HB.dec (t := 25) (g := w1.heap.size) (a := .bool n1) (b := .int .u64 a1) (c := .int .u64 b1) (d := .int .i64 s) hS (by simp)
        obtain ⟨g2, p20, p21, p22, p23⟩ := HB.dec (t := 25) (g := w2.heap.size) (a := .bool n2) (b := .int .u64 a2) (c := .int .u64 b2) (d := .int .i64 t) hS (by simp)
        obtain ⟨g3, p30, p31, p32, p33⟩ := HB.dec (t := 25) (g := w3.heap.size) (a := .bool n3) (b := .int .u64 a3) (c := .int .u64 b3) (d := .int .i64 u) hS (by simp)
        go_wp2_with fail
        refine (cmp_v n1 a1 b1 s x n3 a3 b3 u z r3 (0) _ D1 D3 SX.out SZ.out ls lu s9 u9 hxz hf).mono ?_
        rintro e wc2 ⟨_, rfl, rfl, hb⟩
        replace hS := HB.below hS hb
        clear hb g1 p10 p11 p12 p13 g2 p20 p21 p22 p23 g3 p30 p31 p32 p33
        go_wp2
        go_ret
        exact ⟨_, rfl, rfl, HB.bel hS⟩
      · exact absurd hf0 (by decide)
    · skip
      obtain ⟨g1, p10, p11, p12, p13⟩ := HB.dec (t := 25) (g := w1.heap.size) (a := .bool n1) (b := .int .u64 a1) (c := .int .u64 b1) (d := .int .i64 s) hS (by simp)
      obtain ⟨g2, p20, p21, p22, p23⟩ := HB.dec (t := 25) (g := w2.heap.size) (a := .bool n2) (b := .int .u64 a2) (c := .int .u64 b2) (d := .int .i64 t) hS (by simp)
      obtain ⟨g3, p30, p31, p32, p33⟩ := HB.dec (t := 25) (g := w3.heap.size) (a := .bool n3) (b := .int .u64 a3) (c := .int .u64 b3) (d := .int .i64 u) hS (by simp)
      go_wp2_with fail
      refine (cmp_v n1 a1 b1 s x n2 a2 b2 t y r (0) _ D1 D2 SX.out SY.out ls lt s9 t9 hr hq1).mono ?_
      rintro e wc0 ⟨_, rfl, rfl, hb⟩
      replace hS := HB.below hS hb
      clear hb g1 p10 p11 p12 p13 g2 p20 p21 p22 p23 g3 p30 p31 p32 p33
      obtain ⟨g1, p10, p11, p12, p13⟩ := HB.dec (t := 25) (g := w1.heap.size) (a := .bool n1) (b := .int .u64 a1) (c := .int .u64 b1) (d := .int .i64 s) hS (by simp)
      obtain ⟨g2, p20, p21, p22, p23⟩ := HB.dec (t := 25) (g := w2.heap.size) (a := .bool n2) (b := .int .u64 a2) (c := .int .u64 b2) (d := .int .i64 t) hS (by simp)
      obtain ⟨g3, p30, p31, p32, p33⟩ := HB.dec (t := 25) (g := w3.heap.size) (a := .bool n3) (b := .int .u64 a3) (c := .int .u64 b3) (d := .int .i64 u) hS (by simp)
      go_wp2_with fail
      refine (cmp_v n2 a2 b2 t y n3 a3 b3 u z r2 (1) _ D2 D3 SY.out SZ.out lt lu t9 u9 hyz hd).mono ?_
      rintro e wc1 ⟨_, rfl, rfl, hb⟩
      replace hS := HB.below hS hb
      clear hb g1 p10 p11 p12 p13 g2 p20 p21 p22 p23 g3 p30 p31 p32 p33
      go_wp2
      go_ret
      exact ⟨_, rfl, rfl, HB.bel hS⟩
  · skip
    obtain ⟨g1, p10, p11, p12, p13⟩ := HB.dec (t := 25) (g := w1.heap.size) (a := .bool n1) (b := .int .u64 a1) (c := .int .u64 b1) (d := .int .i64 s) hS (by simp)
    obtain ⟨g2, p20, p21, p22, p23⟩ := HB.dec (t := 25) (g := w2.heap.size) (a := .bool n2) (b := .int .u64 a2) (c := .int .u64 b2) (d := .int .i64 t) hS (by simp)
    obtain ⟨g3, p30, p31, p32, p33⟩ := HB.dec (t := 25) (g := w3.heap.size) (a := .bool n3) (b := .int .u64 a3) (c := .int .u64 b3) (d := .int .i64 u) hS (by simp)
    go_wp2_with fail
    refine (cmp_v n1 a1 b1 s x n2 a2 b2 t y r (1) _ D1 D2 SX.out SY.out ls lt s9 t9 hr hq1).mono ?_
    rintro e wc0 ⟨_, rfl, rfl, hb⟩
    replace hS := HB.below hS hb
    clear hb g1 p10 p11 p12 p13 g2 p20 p21 p22 p23 g3 p30 p31 p32 p33
    go_wp2
    go_ret
    exact ⟨_, rfl, rfl, HB.bel hS⟩
end Go.Proofs.YtfppkhbbcnplfaaGreatDoor

/- Package pyxref1 at any decimals: RightDec, digits, Make, Neg, Sign. -/
import Derived.Test.YtakofbkbbmpfeaaRefP
import Derived.Test.YtakofbkbbmpfeaaDecJ
import Derived.Deep.RegionHeld3
import Derived.IntWalk
namespace Go.Proofs.Ytakofbkbbmpfeaa
open Go.RowKit
theorem dig_zero {w : World} {A : Option Addr} {n cap : Nat} {ds : List Nat} (h : DigC w A n cap ds) (hn : n = 0) : dv ds = 0 := by
  have := dv_le_pow h
  rw [hn] at this
  simp at this
  exact this
theorem dig_over {w : World} {A : Option Addr} {n cap N : Nat} {ds : List Nat} (h : DigC w A n cap ds) (e : dv ds = N) (ho : 1000000000000000000000000000000 ≤ N) : ¬ n ≤ 30 := fun hle => by
  have h1 := Nat.lt_of_lt_of_le (dv_le_pow h) (Nat.pow_le_pow_right (by decide) hle)
  rw [e] at h1
  exact absurd h1 (Nat.not_lt.2 ho)
theorem v2_40 {a b : Int} (ha : U64 a) (hb : U64 b) : v2 a b < 10 ^ 40 := Nat.lt_trans (v2_lt ha hb) (by decide)
set_option maxRecDepth 100000 in
set_option maxHeartbeats 1600000 in
theorem rdec_over (n : Bool) (a b s : Int) (w : World) (ha : U64 a) (hb1 : U64 b) (h1 : 1000000000000000000000000000000 ≤ v2 a b) :
    Calls Try.prog 47 #[.agg #[.bool n, .int .u64 a, .int .u64 b, .int .i64 s]] w (Ret w (IsBool false)) := by
  have W := Lib.hid (d1 w n a b s)
  have H1 := Lib.hid h1
  clear h1
  go_enter Try.func47, Try.ntmps47
  go_wp2_with fail
  refine (nat2_c a b _ ha hb1).mono ?_
  rintro e w1 ⟨A, m, k, ds, ⟨D, N, E⟩, rfl, hb⟩
  have W1 := W.out.below hb
  obtain ⟨lq, q0, q1, q2, q3⟩ := HB.dec (t := 49) (g := w.heap.size) (a := .bool n) (b := .int .u64 a) (c := .int .u64 b) (d := .int .i64 s) W1 (by simp)
  have HB1 := Lib.hid W1.1
  have l30 : decide ((m : Int) ≤ 30) = false := by have := dig_over D E H1.out; simp; omega
  clear D N E W W1 hb
  go_wp2
  go_ret
  exact ⟨_, rfl, rfl, HB1.out⟩
set_option maxRecDepth 100000 in
set_option maxHeartbeats 1600000 in
theorem rdec_neg (n : Bool) (a b s : Int) (w : World) (ha : U64 a) (hb1 : U64 b) (h1 : v2 a b < 1000000000000000000000000000000) (h2 : s < 0) :
    Calls Try.prog 47 #[.agg #[.bool n, .int .u64 a, .int .u64 b, .int .i64 s]] w (Ret w (IsBool false)) := by
  have W := Lib.hid (d1 w n a b s)
  have H1 := Lib.hid h1
  clear h1
  have g2 : decide (0 ≤ s) = false := by simp; omega
  go_enter Try.func47, Try.ntmps47
  go_wp2_with fail
  refine (nat2_c a b _ ha hb1).mono ?_
  rintro e w1 ⟨A, m, k, ds, ⟨D, N, E⟩, rfl, hb⟩
  have W1 := W.out.below hb
  obtain ⟨lq, q0, q1, q2, q3⟩ := HB.dec (t := 49) (g := w.heap.size) (a := .bool n) (b := .int .u64 a) (c := .int .u64 b) (d := .int .i64 s) W1 (by simp)
  have HB1 := Lib.hid W1.1
  have l30 : (m : Int) ≤ 30 := by have : m ≤ 30 := lenA D N (by rw [E]; exact H1.out); omega
  clear D N E W W1 hb
  go_wp2
  go_ret
  exact ⟨_, rfl, rfl, HB1.out⟩
set_option maxRecDepth 100000 in
set_option maxHeartbeats 1600000 in
theorem rdec_far (n : Bool) (a b s : Int) (w : World) (ha : U64 a) (hb1 : U64 b) (h1 : v2 a b < 1000000000000000000000000000000) (h2 : 0 ≤ s) (h3 : 9 < s) :
    Calls Try.prog 47 #[.agg #[.bool n, .int .u64 a, .int .u64 b, .int .i64 s]] w (Ret w (IsBool false)) := by
  have W := Lib.hid (d1 w n a b s)
  have H1 := Lib.hid h1
  clear h1
  have g2 : decide (s ≤ 9) = false := by simp; omega
  go_enter Try.func47, Try.ntmps47
  go_wp2_with fail
  refine (nat2_c a b _ ha hb1).mono ?_
  rintro e w1 ⟨A, m, k, ds, ⟨D, N, E⟩, rfl, hb⟩
  have W1 := W.out.below hb
  obtain ⟨lq, q0, q1, q2, q3⟩ := HB.dec (t := 49) (g := w.heap.size) (a := .bool n) (b := .int .u64 a) (c := .int .u64 b) (d := .int .i64 s) W1 (by simp)
  have HB1 := Lib.hid W1.1
  have l30 : (m : Int) ≤ 30 := by have : m ≤ 30 := lenA D N (by rw [E]; exact H1.out); omega
  clear D N E W W1 hb
  go_wp2
  go_ret
  exact ⟨_, rfl, rfl, HB1.out⟩
set_option maxRecDepth 100000 in
set_option maxHeartbeats 1600000 in
theorem rdec_pos (n : Bool) (a b s : Int) (w : World) (ha : U64 a) (hb1 : U64 b) (h1 : v2 a b < 1000000000000000000000000000000) (h2 : 0 ≤ s) (h3 : s ≤ 9) (hn : n = false) :
    Calls Try.prog 47 #[.agg #[.bool n, .int .u64 a, .int .u64 b, .int .i64 s]] w (Ret w (IsBool true)) := by
  have W := Lib.hid (d1 w n a b s)
  have H1 := Lib.hid h1
  clear h1
  subst hn
  go_enter Try.func47, Try.ntmps47
  go_wp2_with fail
  refine (nat2_c a b _ ha hb1).mono ?_
  rintro e w1 ⟨A, m, k, ds, ⟨D, N, E⟩, rfl, hb⟩
  have W1 := W.out.below hb
  obtain ⟨lq, q0, q1, q2, q3⟩ := HB.dec (t := 49) (g := w.heap.size) (a := .bool false) (b := .int .u64 a) (c := .int .u64 b) (d := .int .i64 s) W1 (by simp)
  have HB1 := Lib.hid W1.1
  have l30 : (m : Int) ≤ 30 := by have : m ≤ 30 := lenA D N (by rw [E]; exact H1.out); omega
  clear D N E W W1 hb
  go_wp2
  go_ret
  exact ⟨_, rfl, rfl, HB1.out⟩
set_option maxRecDepth 100000 in
set_option maxHeartbeats 1600000 in
theorem rdec_no (n : Bool) (a b s : Int) (w : World) (ha : U64 a) (hb1 : U64 b) (h1 : v2 a b < 1000000000000000000000000000000) (h2 : 0 ≤ s) (h3 : s ≤ 9) (hn : n = true) (hz : v2 a b = 0) :
    Calls Try.prog 47 #[.agg #[.bool n, .int .u64 a, .int .u64 b, .int .i64 s]] w (Ret w (IsBool false)) := by
  have W := Lib.hid (d1 w n a b s)
  have H1 := Lib.hid h1
  have H2 := Lib.hid hz
  clear h1 hz
  subst hn
  go_enter Try.func47, Try.ntmps47
  go_wp2_with fail
  refine (nat2_c a b _ ha hb1).mono ?_
  rintro e w1 ⟨A, m, k, ds, ⟨D, N, E⟩, rfl, hb⟩
  have W1 := W.out.below hb
  obtain ⟨lq, q0, q1, q2, q3⟩ := HB.dec (t := 49) (g := w.heap.size) (a := .bool true) (b := .int .u64 a) (c := .int .u64 b) (d := .int .i64 s) W1 (by simp)
  have HB1 := Lib.hid W1.1
  have l30 : (m : Int) ≤ 30 := by have : m ≤ 30 := lenA D N (by rw [E]; exact H1.out); omega
  obtain rfl : m = 0 := by have : m ≤ 0 := lenA (k := 0) D N (by rw [E, H2.out]; decide); omega
  clear D N E W W1 hb
  go_wp2
  go_ret
  exact ⟨_, rfl, rfl, HB1.out⟩
set_option maxRecDepth 100000 in
set_option maxHeartbeats 1600000 in
theorem rdec_yes (n : Bool) (a b s : Int) (w : World) (ha : U64 a) (hb1 : U64 b) (h1 : v2 a b < 1000000000000000000000000000000) (h2 : 0 ≤ s) (h3 : s ≤ 9) (hn : n = true) (hz : ¬ v2 a b = 0) :
    Calls Try.prog 47 #[.agg #[.bool n, .int .u64 a, .int .u64 b, .int .i64 s]] w (Ret w (IsBool true)) := by
  have W := Lib.hid (d1 w n a b s)
  have H1 := Lib.hid h1
  have H2 := Lib.hid hz
  clear h1 hz
  subst hn
  go_enter Try.func47, Try.ntmps47
  go_wp2_with fail
  refine (nat2_c a b _ ha hb1).mono ?_
  rintro e w1 ⟨A, m, k, ds, ⟨D, N, E⟩, rfl, hb⟩
  have W1 := W.out.below hb
  obtain ⟨lq, q0, q1, q2, q3⟩ := HB.dec (t := 49) (g := w.heap.size) (a := .bool true) (b := .int .u64 a) (c := .int .u64 b) (d := .int .i64 s) W1 (by simp)
  have HB1 := Lib.hid W1.1
  have l30 : (m : Int) ≤ 30 := by have : m ≤ 30 := lenA D N (by rw [E]; exact H1.out); omega
  have m0 : ((m : Int) == 0) = false := by have : m ≠ 0 := fun hm => H2.out (by rw [← E]; exact dig_zero D hm); simp; omega
  clear D N E W W1 hb
  go_wp2
  go_ret
  exact ⟨_, rfl, rfl, HB1.out⟩
theorem rdec_c (n : Bool) (a b s : Int) (w : World) (ha : U64 a) (hb1 : U64 b) :
    Calls Try.prog 47 #[.agg #[.bool n, .int .u64 a, .int .u64 b, .int .i64 s]] w (Ret w (IsBool (decide (RightD n a b s)))) := by
  by_cases h1 : v2 a b < 1000000000000000000000000000000
  · by_cases h2 : 0 ≤ s
    · by_cases h3 : s ≤ 9
      · cases hn : n
        · rw [decide_eq_true (show RightD false a b s from ⟨h1, h2, h3, fun h => by cases h.1⟩)]
          exact rdec_pos false a b s w ha hb1 h1 h2 h3 rfl
        · by_cases hz : v2 a b = 0
          · rw [decide_eq_false (show ¬ RightD true a b s from fun h => h.2.2.2 ⟨rfl, hz⟩)]
            exact rdec_no true a b s w ha hb1 h1 h2 h3 rfl hz
          · rw [decide_eq_true (show RightD true a b s from ⟨h1, h2, h3, fun h => hz h.2⟩)]
            exact rdec_yes true a b s w ha hb1 h1 h2 h3 rfl hz
      · rw [decide_eq_false (fun h : RightD n a b s => h3 h.2.2.1)]
        exact rdec_far n a b s w ha hb1 h1 h2 (by omega)
    · rw [decide_eq_false (fun h : RightD n a b s => h2 h.2.1)]
      exact rdec_neg n a b s w ha hb1 h1 (by omega)
  · rw [decide_eq_false (fun h : RightD n a b s => h1 h.1)]
    exact rdec_over n a b s w ha hb1 (Nat.le_of_not_lt h1)
theorem rdec_v (n : Bool) (a b s : Int) (β : Bool) (w : World) (ha : U64 a) (hb1 : U64 b) (hβ : decide (RightD n a b s) = β) :
    Calls Try.prog 47 #[.agg #[.bool n, .int .u64 a, .int .u64 b, .int .i64 s]] w (Ret w (IsBool β)) := by
  subst hβ
  exact rdec_c n a b s w ha hb1
/-- The decimal that was handed in lies there. -/
def DS (w0 : World) (n : Bool) (a b s : Int) (w : World) : Prop := HB w0 [(w0.heap.size, 49, #[.bool n, .int .u64 a, .int .u64 b, .int .i64 s])] w
theorem dsMk {w0 w : World} {n : Bool} {a b s : Int} (h : DS w0 n a b s w) : DS w0 n a b s w ∧ w.cell? ⟨w0.heap.size, 0, none⟩ = some (.bool n) ∧ w.cell? ⟨w0.heap.size, 1, none⟩ = some (.int .u64 a) ∧ w.cell? ⟨w0.heap.size, 2, none⟩ = some (.int .u64 b) ∧ w.cell? ⟨w0.heap.size, 3, none⟩ = some (.int .i64 s) :=
  ⟨h, (HB.dec (t := 49) h (by simp)).2⟩
set_option maxRecDepth 100000 in
set_option maxHeartbeats 1600000 in
theorem make_over (neg : Bool) (A : Option Addr) (n cap : Nat) (ds : List Nat) (N : Nat) (s : Int) (w : World) (h : DigC w A n cap ds) (e : dv ds = N) (ho : 1000000000000000000000000000000 ≤ N) :
    Calls Try.prog 53 #[.bool neg, .slice A n cap, .int .i64 s] w (Ret w (Ans (errV 3))) := by
  have W : HB w [(w.heap.size, 49, #[.bool false, .int .u64 0, .int .u64 0, .int .i64 0])] (w.alloc (.cells #[.bool false, .int .u64 0, .int .u64 0, .int .i64 0] 49)) := (HB.start (Below.refl _ w)).push #[.bool false, .int .u64 0, .int .u64 0, .int .i64 0] 49
  have hlg : w.heap.size ≤ w.heap.size := Nat.le_refl _
  have l30 : (30 : Int) < (n : Int) := by have := dig_over h e ho; omega
  clear ho
  obtain ⟨lq, q0, q1, q2, q3⟩ := HB.dec (t := 49) (g := w.heap.size) (a := .bool false) (b := .int .u64 0) (c := .int .u64 0) (d := .int .i64 0) W (by simp)
  have Bz := HB.blk (g := w.heap.size) (t := 49) (cs := #[.bool false, .int .u64 0, .int .u64 0, .int .i64 0]) W (by simp)
  have fz0 := Bz.frozen 0
  have fz1 := Bz.frozen 1
  have fz2 := Bz.frozen 2
  have fz3 := Bz.frozen 3
  clear Bz
  have HB1 := Lib.hid W.1
  clear W h e
  go_enter Try.func53, Try.ntmps53
  go_wp2
  exact bodyPost_ret (v := .tuple #[.agg #[.bool false, .int .u64 0, .int .u64 0, .int .i64 0], .int .i64 3]) (by simp [results, Try.results53, go_sem, q0, q1, q2, q3]) rfl ⟨_, ans_err 3, rfl, HB1.out⟩
set_option maxRecDepth 100000 in
set_option maxHeartbeats 1600000 in
theorem make_neg (neg : Bool) (A : Option Addr) (n cap : Nat) (s : Int) (w : World) (hn : n ≤ 30) (hs : s < 0) :
    Calls Try.prog 53 #[.bool neg, .slice A n cap, .int .i64 s] w (Ret w (Ans (errV 3))) := by
  have W : HB w [(w.heap.size, 49, #[.bool false, .int .u64 0, .int .u64 0, .int .i64 0])] (w.alloc (.cells #[.bool false, .int .u64 0, .int .u64 0, .int .i64 0] 49)) := (HB.start (Below.refl _ w)).push #[.bool false, .int .u64 0, .int .u64 0, .int .i64 0] 49
  have hlg : w.heap.size ≤ w.heap.size := Nat.le_refl _
  have l30 : decide ((30 : Int) < (n : Int)) = false := by simp; omega
  obtain ⟨lq, q0, q1, q2, q3⟩ := HB.dec (t := 49) (g := w.heap.size) (a := .bool false) (b := .int .u64 0) (c := .int .u64 0) (d := .int .i64 0) W (by simp)
  have Bz := HB.blk (g := w.heap.size) (t := 49) (cs := #[.bool false, .int .u64 0, .int .u64 0, .int .i64 0]) W (by simp)
  have fz0 := Bz.frozen 0
  have fz1 := Bz.frozen 1
  have fz2 := Bz.frozen 2
  have fz3 := Bz.frozen 3
  clear Bz
  have HB1 := Lib.hid W.1
  clear W
  go_enter Try.func53, Try.ntmps53
  go_wp2
  exact bodyPost_ret (v := .tuple #[.agg #[.bool false, .int .u64 0, .int .u64 0, .int .i64 0], .int .i64 3]) (by simp [results, Try.results53, go_sem, q0, q1, q2, q3]) rfl ⟨_, ans_err 3, rfl, HB1.out⟩
set_option maxRecDepth 100000 in
set_option maxHeartbeats 1600000 in
theorem make_far (neg : Bool) (A : Option Addr) (n cap : Nat) (s : Int) (w : World) (hn : n ≤ 30) (hs : 9 < s) :
    Calls Try.prog 53 #[.bool neg, .slice A n cap, .int .i64 s] w (Ret w (Ans (errV 3))) := by
  have W : HB w [(w.heap.size, 49, #[.bool false, .int .u64 0, .int .u64 0, .int .i64 0])] (w.alloc (.cells #[.bool false, .int .u64 0, .int .u64 0, .int .i64 0] 49)) := (HB.start (Below.refl _ w)).push #[.bool false, .int .u64 0, .int .u64 0, .int .i64 0] 49
  have hlg : w.heap.size ≤ w.heap.size := Nat.le_refl _
  have l30 : decide ((30 : Int) < (n : Int)) = false := by simp; omega
  have g2 : decide (s < 0) = false := by simp; omega
  obtain ⟨lq, q0, q1, q2, q3⟩ := HB.dec (t := 49) (g := w.heap.size) (a := .bool false) (b := .int .u64 0) (c := .int .u64 0) (d := .int .i64 0) W (by simp)
  have Bz := HB.blk (g := w.heap.size) (t := 49) (cs := #[.bool false, .int .u64 0, .int .u64 0, .int .i64 0]) W (by simp)
  have fz0 := Bz.frozen 0
  have fz1 := Bz.frozen 1
  have fz2 := Bz.frozen 2
  have fz3 := Bz.frozen 3
  clear Bz
  have HB1 := Lib.hid W.1
  clear W
  go_enter Try.func53, Try.ntmps53
  go_wp2
  exact bodyPost_ret (v := .tuple #[.agg #[.bool false, .int .u64 0, .int .u64 0, .int .i64 0], .int .i64 3]) (by simp [results, Try.results53, go_sem, q0, q1, q2, q3]) rfl ⟨_, ans_err 3, rfl, HB1.out⟩
theorem make_all (neg : Bool) (A : Option Addr) (n cap : Nat) (ds : List Nat) (N : Nat) (s : Int) (w : World) (h : DigC w A n cap ds) (hn : Norm ds) (e : dv ds = N) :
    Calls Try.prog 53 #[.bool neg, .slice A n cap, .int .i64 s] w (Ret w (Ans (chkV neg N s))) := by
  by_cases hN : N < 1000000000000000000000000000000
  · have l30 : n ≤ 30 := lenA h hn (by rw [e]; exact hN)
    by_cases h0 : 0 ≤ s
    · by_cases h9 : s ≤ 9
      · refine (make_c neg A n cap ds N s w h hn e hN h0 h9).mono ?_
        rintro e w' ⟨v, ⟨m, c, d, hd, ev⟩, he, hb⟩
        obtain ⟨m', c', d', hd', ev'⟩ := decV_is (z := zOf neg N) (s := s) (by rw [zOf_abs]; exact hN)
        obtain ⟨rfl, rfl, rfl⟩ := decIs_one hd hd'
        exact ⟨v, ⟨m, c, d, s, 0, by rw [chkV, if_pos ⟨hN, h0, h9⟩, okV, ev'], ev⟩, he, hb⟩
      · exact ans_of (make_far neg A n cap s w l30 (by omega)) (by rw [chkV, if_neg (fun h => h9 h.2.2)])
    · exact ans_of (make_neg neg A n cap s w l30 (by omega)) (by rw [chkV, if_neg (fun h => h0 h.2.1)])
  · exact ans_of (make_over neg A n cap ds N s w h e (Nat.le_of_not_lt hN)) (by rw [chkV, if_neg (fun h => hN h.1)])
set_option maxRecDepth 100000 in
set_option maxHeartbeats 1600000 in
theorem rsign_no (a b s : Int) (w : World) (ha : U64 a) (hb1 : U64 b) (n : Bool) (hr : ¬ RightD n a b s) :
    Calls Try.prog 48 #[.agg #[.bool n, .int .u64 a, .int .u64 b, .int .i64 s]] w (Ret w (IsInt 0)) := by
  have W := d1 w n a b s
  have HR := Lib.hid (decide_eq_false hr)
  clear hr
  go_enter Try.func48, Try.ntmps48
  go_wp2_with fail
  refine (rdec_v n a b s false _ ha hb1 HR.out).mono ?_
  rintro e w1 ⟨_, rfl, rfl, hb⟩
  replace W := W.below hb
  clear hb
  obtain ⟨lq, q0, q1, q2, q3⟩ := HB.dec (t := 49) (g := w.heap.size) (a := .bool n) (b := .int .u64 a) (c := .int .u64 b) (d := .int .i64 s) W (by simp)
  have HB1 := Lib.hid W.1
  clear W
  go_wp2
  go_ret
  exact ⟨_, rfl, rfl, HB1.out⟩
set_option maxRecDepth 100000 in
set_option maxHeartbeats 1600000 in
theorem rsign_z (a b s : Int) (w : World) (ha : U64 a) (hb1 : U64 b) (n : Bool) (hr : RightD n a b s) (hz : eqW2 a b 0 0 = true) :
    Calls Try.prog 48 #[.agg #[.bool n, .int .u64 a, .int .u64 b, .int .i64 s]] w (Ret w (IsInt 0)) := by
  have W := d1 w n a b s
  have HR := Lib.hid (decide_eq_true hr)
  clear hr
  go_enter Try.func48, Try.ntmps48
  go_wp2_with fail
  refine (rdec_v n a b s true _ ha hb1 HR.out).mono ?_
  rintro e w1 ⟨_, rfl, rfl, hb⟩
  replace W := W.below hb
  clear hb
  obtain ⟨lq, q0, q1, q2, q3⟩ := HB.dec (t := 49) (g := w.heap.size) (a := .bool n) (b := .int .u64 a) (c := .int .u64 b) (d := .int .i64 s) W (by simp)
  have HB1 := Lib.hid W.1
  clear W
  go_wp2
  go_ret
  exact ⟨_, rfl, rfl, HB1.out⟩
set_option maxRecDepth 100000 in
set_option maxHeartbeats 1600000 in
theorem rsign_t (a b s : Int) (w : World) (ha : U64 a) (hb1 : U64 b) (hr : RightD true a b s) (hz : eqW2 a b 0 0 = false) :
    Calls Try.prog 48 #[.agg #[.bool true, .int .u64 a, .int .u64 b, .int .i64 s]] w (Ret w (IsInt (-1))) := by
  have W := d1 w true a b s
  have HR := Lib.hid (decide_eq_true hr)
  clear hr
  go_enter Try.func48, Try.ntmps48
  go_wp2_with fail
  refine (rdec_v true a b s true _ ha hb1 HR.out).mono ?_
  rintro e w1 ⟨_, rfl, rfl, hb⟩
  replace W := W.below hb
  clear hb
  obtain ⟨lq, q0, q1, q2, q3⟩ := HB.dec (t := 49) (g := w.heap.size) (a := .bool true) (b := .int .u64 a) (c := .int .u64 b) (d := .int .i64 s) W (by simp)
  have HB1 := Lib.hid W.1
  clear W
  go_wp2
  go_ret
  exact ⟨_, rfl, rfl, HB1.out⟩
set_option maxRecDepth 100000 in
set_option maxHeartbeats 1600000 in
theorem rsign_f (a b s : Int) (w : World) (ha : U64 a) (hb1 : U64 b) (hr : RightD false a b s) (hz : eqW2 a b 0 0 = false) :
    Calls Try.prog 48 #[.agg #[.bool false, .int .u64 a, .int .u64 b, .int .i64 s]] w (Ret w (IsInt 1)) := by
  have W := d1 w false a b s
  have HR := Lib.hid (decide_eq_true hr)
  clear hr
  go_enter Try.func48, Try.ntmps48
  go_wp2_with fail
  refine (rdec_v false a b s true _ ha hb1 HR.out).mono ?_
  rintro e w1 ⟨_, rfl, rfl, hb⟩
  replace W := W.below hb
  clear hb
  obtain ⟨lq, q0, q1, q2, q3⟩ := HB.dec (t := 49) (g := w.heap.size) (a := .bool false) (b := .int .u64 a) (c := .int .u64 b) (d := .int .i64 s) W (by simp)
  have HB1 := Lib.hid W.1
  clear W
  go_wp2
  go_ret
  exact ⟨_, rfl, rfl, HB1.out⟩
theorem sign_f {N : Nat} (h : N ≠ 0) : (zOf false N).sign = 1 := by
  unfold zOf
  exact sign_pos (by simp; omega)
theorem sign_t {N : Nat} (h : N ≠ 0) : (zOf true N).sign = -1 := by
  unfold zOf
  exact sign_neg (by simp; omega)
theorem sign_0 (n : Bool) : (zOf n 0).sign = 0 := by cases n <;> rfl
theorem rsign_all (n : Bool) (a b s : Int) (w : World) (ha : U64 a) (hb1 : U64 b) :
    Calls Try.prog 48 #[.agg #[.bool n, .int .u64 a, .int .u64 b, .int .i64 s]] w (Ret w (IsInt (signV n a b s))) := by
  by_cases hr : RightD n a b s
  · rw [signV, if_pos hr]
    cases hz : eqW2 a b 0 0
    · have h0 : v2 a b ≠ 0 := fun e => by rw [eqW2_0 ha hb1, e] at hz; simp at hz
      cases n
      · rw [sign_f h0]
        exact rsign_f a b s w ha hb1 hr hz
      · rw [sign_t h0]
        exact rsign_t a b s w ha hb1 hr hz
    · have h0 : v2 a b = 0 := by rw [eqW2_0 ha hb1] at hz; simpa using hz
      rw [h0, sign_0]
      exact rsign_z a b s w ha hb1 n hr hz
  · rw [signV, if_neg hr]
    exact rsign_no a b s w ha hb1 n hr
end Go.Proofs.Ytakofbkbbmpfeaa

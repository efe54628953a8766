/- Package pyxref1 at any decimals: RightDec, digits, Make, Neg, Sign. -/
import Derived.Test.YtlhceelkefgjhaaGreatDoorRefP
import Derived.Test.YtlhceelkefgjhaaGreatDoorDecJ
import Derived.Deep.RegionHeld3
import Derived.IntWalk
namespace Go.Proofs.YtlhceelkefgjhaaGreatDoor
open Go.RowKit
theorem dig_zero {w : World} {A : Option Addr} {n cap : Nat} {ds : List Nat} (h : DigC w A n cap ds) (hn : n = 0) : dv ds = 0 := by
  have := dv_le_pow h
  rw [hn] at this
  simp at this
  exact this
theorem dig_over {w : World} {A : Option Addr} {n cap N : Nat} {ds : List Nat} (h : DigC w A n cap ds) (e : dv ds = N) (ho : 1000000000000000000000000000000 ≤ N) : ¬ n ≤ 30 := fun hle => by
  have h1 := Nat.lt_of_lt_of_le (dv_le_pow h) (Nat.pow_le_pow_right (by decide) hle)
  rw [e] at h1
  exact absurd h1 (Nat.not_lt.2 ho)
theorem v2_40 {a b : Int} (ha : U64 a) (hb : U64 b) : v2 a b < 10 ^ 40 := Nat.lt_trans (v2_lt ha hb) (by decide)
set_option maxRecDepth 100000 in
set_option maxHeartbeats 1600000 in
theorem rdec_over (n : Bool) (a b s : Int) (w : World) (ha : U64 a) (hb1 : U64 b) (h1 : 1000000000000000000000000000000 ≤ v2 a b) :
    Calls Tryz.prog 19 #[.agg #[.bool n, .int .u64 a, .int .u64 b, .int .i64 s]] w (Ret w (IsBool false)) := by
  have W := Lib.hid (d1 w n a b s)
  have H1 := Lib.hid h1
  clear h1
  go_enter Tryz.func19, Tryz.ntmps19
  go_wp2_with fail
  refine (nat2_c a b _ ha hb1).mono ?_
  rintro e w1 ⟨A, m, k, ds, ⟨D, N, E⟩, rfl, hb⟩
  have W1 := W.out.below hb
  obtain ⟨lq, q0, q1, q2, q3⟩ := HB.dec (t := 25) (g := w.heap.size) (a := .bool n) (b := .int .u64 a) (c := .int .u64 b) (d := .int .i64 s) W1 (by simp)
  have HB1 := Lib.hid W1.1
  have l30 : decide ((m : Int) ≤ 30) = false := by have := dig_over D E H1.out; simp; omega
  clear D N E W W1 hb
  go_wp2
  go_ret
  exact ⟨_, rfl, rfl, HB1.out⟩
set_option maxRecDepth 100000 in
set_option maxHeartbeats 1600000 in
theorem rdec_neg (n : Bool) (a b s : Int) (w : World) (ha : U64 a) (hb1 : U64 b) (h1 : v2 a b < 1000000000000000000000000000000) (h2 : s < 0) :
    Calls Tryz.prog 19 #[.agg #[.bool n, .int .u64 a, .int .u64 b, .int .i64 s]] w (Ret w (IsBool false)) := by
  have W := Lib.hid (d1 w n a b s)
  have H1 := Lib.hid h1
  clear h1
  have g2 : decide (0 ≤ s) = false := by simp; omega
  go_enter Tryz.func19, Tryz.ntmps19
  go_wp2_with fail
  refine (nat2_c a b _ ha hb1).mono ?_
  rintro e w1 ⟨A, m, k, ds, ⟨D, N, E⟩, rfl, hb⟩
  have W1 := W.out.below hb
  obtain ⟨lq, q0, q1, q2, q3⟩ := HB.dec (t := 25) (g := w.heap.size) (a := .bool n) (b := .int .u64 a) (c := .int .u64 b) (d := .int .i64 s) W1 (by simp)
  have HB1 := Lib.hid W1.1
  have l30 : (m : Int) ≤ 30 := by have : m ≤ 30 := lenA D N (by rw [E]; exact H1.out); omega
  clear D N E W W1 hb
  go_wp2
  go_ret
  exact ⟨_, rfl, rfl, HB1.out⟩
set_option maxRecDepth 100000 in
set_option maxHeartbeats 1600000 in
theorem rdec_far (n : Bool) (a b s : Int) (w : World) (ha : U64 a) (hb1 : U64 b) (h1 : v2 a b < 1000000000000000000000000000000) (h2 : 0 ≤ s) (h3 : 9 < s) :
    Calls Tryz.prog 19 #[.agg #[.bool n, .int .u64 a, .int .u64 b, .int .i64 s]] w (Ret w (IsBool false)) := by
  have W := Lib.hid (d1 w n a b s)
  have H1 := Lib.hid h1
  clear h1
  have g2 : decide (s ≤ 9) = false := by simp; omega
  go_enter Tryz.func19, Tryz.ntmps19
  go_wp2_with fail
  refine (nat2_c a b _ ha hb1).mono ?_
  rintro e w1 ⟨A, m, k, ds, ⟨D, N, E⟩, rfl, hb⟩
  have W1 := W.out.below hb
  obtain ⟨lq, q0, q1, q2, q3⟩ := HB.dec (t := 25) (g := w.heap.size) (a := .bool n) (b := .int .u64 a) (c := .int .u64 b) (d := .int .i64 s) W1 (by simp)
  have HB1 := Lib.hid W1.1
  have l30 : (m : Int) ≤ 30 := by have : m ≤ 30 := lenA D N (by rw [E]; exact H1.out); omega
  clear D N E W W1 hb
  go_wp2
  go_ret
  exact ⟨_, rfl, rfl, HB1.out⟩
set_option maxRecDepth 100000 in
set_option maxHeartbeats 1600000 in
theorem rdec_pos (n : Bool) (a b s : Int) (w : World) (ha : U64 a) (hb1 : U64 b) (h1 : v2 a b < 1000000000000000000000000000000) (h2 : 0 ≤ s) (h3 : s ≤ 9) (hn : n = false) :
    Calls Tryz.prog 19 #[.agg #[.bool n, .int .u64 a, .int .u64 b, .int .i64 s]] w (Ret w (IsBool true)) := by
  have W := Lib.hid (d1 w n a b s)
  have H1 := Lib.hid h1
  clear h1
  subst hn
  go_enter Tryz.func19, Tryz.ntmps19
  go_wp2_with fail
  refine (nat2_c a b _ ha hb1).mono ?_
  rintro e w1 ⟨A, m, k, ds, ⟨D, N, E⟩, rfl, hb⟩
  have W1 := W.out.below hb
  obtain ⟨lq, q0, q1, q2, q3⟩ := HB.dec (t := 25) (g := w.heap.size) (a := .bool false) (b := .int .u64 a) (c := .int .u64 b) (d := .int .i64 s) W1 (by simp)
  have HB1 := Lib.hid W1.1
  have l30 : (m : Int) ≤ 30 := by have : m ≤ 30 := lenA D N (by rw [E]; exact H1.out); omega
  clear D N E W W1 hb
  go_wp2
  go_ret
  exact ⟨_, rfl, rfl, HB1.out⟩
set_option maxRecDepth 100000 in
set_option maxHeartbeats 1600000 in
theorem rdec_no (n : Bool) (a b s : Int) (w : World) (ha : U64 a) (hb1 : U64 b) (h1 : v2 a b < 1000000000000000000000000000000) (h2 : 0 ≤ s) (h3 : s ≤ 9) (hn : n = true) (hz : v2 a b = 0) :
    Calls Tryz.prog 19 #[.agg #[.bool n, .int .u64 a, .int .u64 b, .int .i64 s]] w (Ret w (IsBool false)) := by
  have W := Lib.hid (d1 w n a b s)
  have H1 := Lib.hid h1
  have H2 := Lib.hid hz
  clear h1 hz
  subst hn
  go_enter Tryz.func19, Tryz.ntmps19
  go_wp2_with fail
  refine (nat2_c a b _ ha hb1).mono ?_
  rintro e w1 ⟨A, m, k, ds, ⟨D, N, E⟩, rfl, hb⟩
  have W1 := W.out.below hb
  obtain ⟨lq, q0, q1, q2, q3⟩ := HB.dec (t := 25) (g := w.heap.size) (a := .bool true) (b := .int .u64 a) (c := .int .u64 b) (d := .int .i64 s) W1 (by simp)
  have HB1 := Lib.hid W1.1
  have l30 : (m : Int) ≤ 30 := by have : m ≤ 30 := lenA D N (by rw [E]; exact H1.out); omega
  obtain rfl : m = 0 := by have : m ≤ 0 := lenA (k := 0) D N (by rw [E, H2.out]; decide); omega
  clear D N E W W1 hb
  go_wp2
  go_ret
  exact ⟨_, rfl, rfl, HB1.out⟩
set_option maxRecDepth 100000 in
set_option maxHeartbeats 1600000 in
theorem rdec_yes (n : Bool) (a b s : Int) (w : World) (ha : U64 a) (hb1 : U64 b) (h1 : v2 a b < 1000000000000000000000000000000) (h2 : 0 ≤ s) (h3 : s ≤ 9) (hn : n = true) (hz : ¬ v2 a b = 0) :
    Calls Tryz.prog 19 #[.agg #[.bool n, .int .u64 a, .int .u64 b, .int .i64 s]] w (Ret w (IsBool true)) := by
  have W := Lib.hid (d1 w n a b s)
  have H1 := Lib.hid h1
  have H2 := Lib.hid hz
  clear h1 hz
  subst hn
  go_enter Tryz.func19, Tryz.ntmps19
  go_wp2_with fail
  refine (nat2_c a b _ ha hb1).mono ?_
  rintro e w1 ⟨A, m, k, ds, ⟨D, N, E⟩, rfl, hb⟩
  have W1 := W.out.below hb
  obtain ⟨lq, q0, q1, q2, q3⟩ := HB.dec (t := 25) (g := w.heap.size) (a := .bool true) (b := .int .u64 a) (c := .int .u64 b) (d := .int .i64 s) W1 (by simp)
  have HB1 := Lib.hid W1.1
  have l30 : (m : Int) ≤ 30 := by have : m ≤ 30 := lenA D N (by rw [E]; exact H1.out); omega
  have m0 : ((m : Int) == 0) = false := by have : m ≠ 0 := fun hm => H2.out (by rw [← E]; exact dig_zero D hm); simp; omega
  clear D N E W W1 hb
  go_wp2
  go_ret
  exact ⟨_, rfl, rfl, HB1.out⟩
theorem rdec_c (n : Bool) (a b s : Int) (w : World) (ha : U64 a) (hb1 : U64 b) :
    Calls Tryz.prog 19 #[.agg #[.bool n, .int .u64 a, .int .u64 b, .int .i64 s]] w (Ret w (IsBool (decide (RightD n a b s)))) := by
  by_cases h1 : v2 a b < 1000000000000000000000000000000
  · by_cases h2 : 0 ≤ s
    · by_cases h3 : s ≤ 9
      · cases hn : n
        · rw [decide_eq_true (show RightD false a b s from ⟨h1, h2, h3, fun h => by cases h.1⟩)]
          exact rdec_pos false a b s w ha hb1 h1 h2 h3 rfl
        · by_cases hz : v2 a b = 0
          · rw [decide_eq_false (show ¬ RightD true a b s from fun h => h.2.2.2 ⟨rfl, hz⟩)]
            exact rdec_no true a b s w ha hb1 h1 h2 h3 rfl hz
          · rw [decide_eq_true (show RightD true a b s from ⟨h1, h2, h3, fun h => hz h.2⟩)]
            exact rdec_yes true a b s w ha hb1 h1 h2 h3 rfl hz
      · rw [decide_eq_false (fun h : RightD n a b s => h3 h.2.2.1)]
        exact rdec_far n a b s w ha hb1 h1 h2 (by omega)
    · rw [decide_eq_false (fun h : RightD n a b s => h2 h.2.1)]
      exact rdec_neg n a b s w ha hb1 h1 (by omega)
  · rw [decide_eq_false (fun h : RightD n a b s => h1 h.1)]
    exact rdec_over n a b s w ha hb1 (Nat.le_of_not_lt h1)
theorem rdec_v (n : Bool) (a b s : Int) (β : Bool) (w : World) (ha : U64 a) (hb1 : U64 b) (hβ : decide (RightD n a b s) = β) :
    Calls Tryz.prog 19 #[.agg #[.bool n, .int .u64 a, .int .u64 b, .int .i64 s]] w (Ret w (IsBool β)) := by
  subst hβ
  exact rdec_c n a b s w ha hb1
/-- The decimal that was handed in lies there. -/
def DS (w0 : World) (n : Bool) (a b s : Int) (w : World) : Prop := HB w0 [(w0.heap.size, 25, #[.bool n, .int .u64 a, .int .u64 b, .int .i64 s])] w
theorem dsMk {w0 w : World} {n : Bool} {a b s : Int} (h : DS w0 n a b s w) : DS w0 n a b s w ∧ w.cell? ⟨w0.heap.size, 0, none⟩ = some (.bool n) ∧ w.cell? ⟨w0.heap.size, 1, none⟩ = some (.int .u64 a) ∧ w.cell? ⟨w0.heap.size, 2, none⟩ = some (.int .u64 b) ∧ w.cell? ⟨w0.heap.size, 3, none⟩ = some (.int .i64 s) :=
  ⟨h, (HB.dec (t := 25) h (by simp)).2⟩
set_option maxRecDepth 100000 in
set_option maxHeartbeats 1600000 in
theorem rdigits_c (n : Bool) (a b s t : Int) (w : World) (ha : U64 a) (hb1 : U64 b) (h0 : 0 ≤ s) (hst : s ≤ t) (h9 : t ≤ 9) :
    Calls Tryz.prog 37 #[.agg #[.bool n, .int .u64 a, .int .u64 b, .int .i64 s], .int .i64 t] w (RetN w (upW a b s t)) := by
  obtain ⟨k, hk⟩ : ∃ k : Nat, t - s = (k : Int) := ⟨(t - s).toNat, by omega⟩
  have EX := Lib.hid (show v2 a b * 10 ^ k = upW a b s t by unfold upW; rw [show (t - s).toNat = k by omega])
  have W : DS w n a b s (w.alloc (.cells #[.bool n, .int .u64 a, .int .u64 b, .int .i64 s] 25)) := d1 w n a b s
  have WH := Lib.hid W
  clear W
  have hk9 : k ≤ 9 := by omega
  have ek : IntKind.i64.wrap (t - s) = (k : Int) := by rw [hk]; exact IntWalk.i64_in _ (by omega)
  clear hk
  go_enter Tryz.func37, Tryz.ntmps37
  go_wp2
  go_region_held3 (fun w' => DS w n a b s w' ∧ w'.cell? ⟨w.heap.size, 0, none⟩ = some (.bool n) ∧ w'.cell? ⟨w.heap.size, 1, none⟩ = some (.int .u64 a) ∧ w'.cell? ⟨w.heap.size, 2, none⟩ = some (.int .u64 b) ∧ w'.cell? ⟨w.heap.size, 3, none⟩ = some (.int .i64 s))
    (first | exact dsMk (HB.drew WH.out) | exact dsMk (keepB hbx (by assumption)))
    (first
      | (go_at_call 43; (with_reducible refine (nat2_c a b _ ha hb1).mono ?_); rintro e wx ⟨A1, n1, k1, d1, ⟨D1, N1, E1⟩, rfl, hbx⟩; have l1 : n1 ≤ 40 := lenA D1 N1 (by rw [E1]; exact v2_40 ha hb1); have E1h := Lib.hid E1; clear E1)
      | (go_at_call 63; (with_reducible refine (tenNat_c k (by omega) _).mono ?_); rintro e wx ⟨A2, n2, k2, d2, ⟨D2, N2, E2⟩, rfl, hbx⟩; have l2 : n2 ≤ k + 1 := lenA D2 N2 (by rw [E2]; exact Nat.pow_lt_pow_right (by decide) (by omega)); have E2h := Lib.hid E2; clear E2; (try replace D1 := D1.below hbx))
      | (go_at_call 42; (with_reducible refine (mulNat_c A1 A2 n1 n2 k1 k2 d1 d2 _ (by exact D1) (by exact D2) (by omega) (by omega)).mono ?_); rintro e wx ⟨A3, n3, k3, d3, ⟨D3, N3, E3⟩, rfl, hbx⟩; have E3h := Lib.hid E3; clear E3))
  rename_i hHeld
  have E : dv d3 = upW a b s t := by rw [E3h.out, E1h.out, E2h.out]; exact EX.out
  have EH := Lib.hid E
  have HBL := hHeld.1.1
  clear E hHeld
  go_wp2
  go_ret
  exact ⟨_, _, _, _, ⟨D3, N3, EH.out⟩, rfl, HBL⟩
set_option maxRecDepth 100000 in
set_option maxHeartbeats 1600000 in
theorem make_over (neg : Bool) (A : Option Addr) (n cap : Nat) (ds : List Nat) (N : Nat) (s : Int) (w : World) (h : DigC w A n cap ds) (e : dv ds = N) (ho : 1000000000000000000000000000000 ≤ N) :
    Calls Tryz.prog 38 #[.bool neg, .slice A n cap, .int .i64 s] w (Ret w (Ans (errV 3))) := by
  have W : HB w [(w.heap.size, 25, #[.bool false, .int .u64 0, .int .u64 0, .int .i64 0])] (w.alloc (.cells #[.bool false, .int .u64 0, .int .u64 0, .int .i64 0] 25)) := (HB.start (Below.refl _ w)).push #[.bool false, .int .u64 0, .int .u64 0, .int .i64 0] 25
  have hlg : w.heap.size ≤ w.heap.size := Nat.le_refl _
  have l30 : (30 : Int) < (n : Int) := by have := dig_over h e ho; omega
  clear ho
  obtain ⟨lq, q0, q1, q2, q3⟩ := HB.dec (t := 25) (g := w.heap.size) (a := .bool false) (b := .int .u64 0) (c := .int .u64 0) (d := .int .i64 0) W (by simp)
  have Bz := HB.blk (g := w.heap.size) (t := 25) (cs := #[.bool false, .int .u64 0, .int .u64 0, .int .i64 0]) W (by simp)
  have fz0 := Bz.frozen 0
  have fz1 := Bz.frozen 1
  have fz2 := Bz.frozen 2
  have fz3 := Bz.frozen 3
  clear Bz
  have HB1 := Lib.hid W.1
  clear W h e
  go_enter Tryz.func38, Tryz.ntmps38
  go_wp2
  exact bodyPost_ret (v := .tuple #[.agg #[.bool false, .int .u64 0, .int .u64 0, .int .i64 0], .int .i64 3]) (by simp [results, Tryz.results38, go_sem, q0, q1, q2, q3]) rfl ⟨_, ans_err 3, rfl, HB1.out⟩
set_option maxRecDepth 100000 in
set_option maxHeartbeats 1600000 in
theorem make_neg (neg : Bool) (A : Option Addr) (n cap : Nat) (s : Int) (w : World) (hn : n ≤ 30) (hs : s < 0) :
    Calls Tryz.prog 38 #[.bool neg, .slice A n cap, .int .i64 s] w (Ret w (Ans (errV 3))) := by
  have W : HB w [(w.heap.size, 25, #[.bool false, .int .u64 0, .int .u64 0, .int .i64 0])] (w.alloc (.cells #[.bool false, .int .u64 0, .int .u64 0, .int .i64 0] 25)) := (HB.start (Below.refl _ w)).push #[.bool false, .int .u64 0, .int .u64 0, .int .i64 0] 25
  have hlg : w.heap.size ≤ w.heap.size := Nat.le_refl _
  have l30 : decide ((30 : Int) < (n : Int)) = false := by simp; omega
  obtain ⟨lq, q0, q1, q2, q3⟩ := HB.dec (t := 25) (g := w.heap.size) (a := .bool false) (b := .int .u64 0) (c := .int .u64 0) (d := .int .i64 0) W (by simp)
  have Bz := HB.blk (g := w.heap.size) (t := 25) (cs := #[.bool false, .int .u64 0, .int .u64 0, .int .i64 0]) W (by simp)
  have fz0 := Bz.frozen 0
  have fz1 := Bz.frozen 1
  have fz2 := Bz.frozen 2
  have fz3 := Bz.frozen 3
  clear Bz
  have HB1 := Lib.hid W.1
  clear W
  go_enter Tryz.func38, Tryz.ntmps38
  go_wp2
  exact bodyPost_ret (v := .tuple #[.agg #[.bool false, .int .u64 0, .int .u64 0, .int .i64 0], .int .i64 3]) (by simp [results, Tryz.results38, go_sem, q0, q1, q2, q3]) rfl ⟨_, ans_err 3, rfl, HB1.out⟩
set_option maxRecDepth 100000 in
set_option maxHeartbeats 1600000 in
theorem make_far (neg : Bool) (A : Option Addr) (n cap : Nat) (s : Int) (w : World) (hn : n ≤ 30) (hs : 9 < s) :
    Calls Tryz.prog 38 #[.bool neg, .slice A n cap, .int .i64 s] w (Ret w (Ans (errV 3))) := by
  have W : HB w [(w.heap.size, 25, #[.bool false, .int .u64 0, .int .u64 0, .int .i64 0])] (w.alloc (.cells #[.bool false, .int .u64 0, .int .u64 0, .int .i64 0] 25)) := (HB.start (Below.refl _ w)).push #[.bool false, .int .u64 0, .int .u64 0, .int .i64 0] 25
  have hlg : w.heap.size ≤ w.heap.size := Nat.le_refl _
  have l30 : decide ((30 : Int) < (n : Int)) = false := by simp; omega
  have g2 : decide (s < 0) = false := by simp; omega
  obtain ⟨lq, q0, q1, q2, q3⟩ := HB.dec (t := 25) (g := w.heap.size) (a := .bool false) (b := .int .u64 0) (c := .int .u64 0) (d := .int .i64 0) W (by simp)
  have Bz := HB.blk (g := w.heap.size) (t := 25) (cs := #[.bool false, .int .u64 0, .int .u64 0, .int .i64 0]) W (by simp)
  have fz0 := Bz.frozen 0
  have fz1 := Bz.frozen 1
  have fz2 := Bz.frozen 2
  have fz3 := Bz.frozen 3
  clear Bz
  have HB1 := Lib.hid W.1
  clear W
  go_enter Tryz.func38, Tryz.ntmps38
  go_wp2
  exact bodyPost_ret (v := .tuple #[.agg #[.bool false, .int .u64 0, .int .u64 0, .int .i64 0], .int .i64 3]) (by simp [results, Tryz.results38, go_sem, q0, q1, q2, q3]) rfl ⟨_, ans_err 3, rfl, HB1.out⟩
theorem make_all (neg : Bool) (A : Option Addr) (n cap : Nat) (ds : List Nat) (N : Nat) (s : Int) (w : World) (h : DigC w A n cap ds) (hn : Norm ds) (e : dv ds = N) :
    Calls Tryz.prog 38 #[.bool neg, .slice A n cap, .int .i64 s] w (Ret w (Ans (chkV neg N s))) := by
  by_cases hN : N < 1000000000000000000000000000000
  · have l30 : n ≤ 30 := lenA h hn (by rw [e]; exact hN)
    by_cases h0 : 0 ≤ s
    · by_cases h9 : s ≤ 9
      · refine (make_c neg A n cap ds N s w h hn e hN h0 h9).mono ?_
        rintro e w' ⟨v, ⟨m, c, d, hd, ev⟩, he, hb⟩
        obtain ⟨m', c', d', hd', ev'⟩ := decV_is (z := zOf neg N) (s := s) (by rw [zOf_abs]; exact hN)
        obtain ⟨rfl, rfl, rfl⟩ := decIs_one hd hd'
        exact ⟨v, ⟨m, c, d, s, 0, by rw [chkV, if_pos ⟨hN, h0, h9⟩, okV, ev'], ev⟩, he, hb⟩
      · exact ans_of (make_far neg A n cap s w l30 (by omega)) (by rw [chkV, if_neg (fun h => h9 h.2.2)])
    · exact ans_of (make_neg neg A n cap s w l30 (by omega)) (by rw [chkV, if_neg (fun h => h0 h.2.1)])
  · exact ans_of (make_over neg A n cap ds N s w h e (Nat.le_of_not_lt hN)) (by rw [chkV, if_neg (fun h => hN h.1)])
set_option maxRecDepth 100000 in
set_option maxHeartbeats 1600000 in
theorem rneg_no (a b s : Int) (w : World) (ha : U64 a) (hb1 : U64 b) (n : Bool) (hr : ¬ RightD n a b s) :
    Calls Tryz.prog 21 #[.agg #[.bool n, .int .u64 a, .int .u64 b, .int .i64 s]] w (Ret w (· = .agg #[.bool false, .int .u64 0, .int .u64 0, .int .i64 0])) := by
  have W : HB w [(w.heap.size + 1, 25, #[.bool false, .int .u64 0, .int .u64 0, .int .i64 0]), (w.heap.size, 25, #[.bool n, .int .u64 a, .int .u64 b, .int .i64 s])] ((w.alloc (.cells #[.bool n, .int .u64 a, .int .u64 b, .int .i64 s] 25)).alloc (.cells #[.bool false, .int .u64 0, .int .u64 0, .int .i64 0] 25)) := by
    have h := ((HB.start (Below.refl _ w)).push #[.bool n, .int .u64 a, .int .u64 b, .int .i64 s] 25).push #[.bool false, .int .u64 0, .int .u64 0, .int .i64 0] 25
    simpa using h
  have hle : w.heap.size ≤ w.heap.size + 1 := by omega
  have hl0 : w.heap.size ≤ w.heap.size := Nat.le_refl _
  have HR := Lib.hid (decide_eq_false hr)
  clear hr
  go_enter Tryz.func21, Tryz.ntmps21
  go_wp2_with fail
  refine (rdec_v n a b s false _ ha hb1 HR.out).mono ?_
  rintro e w1 ⟨_, rfl, rfl, hb⟩
  replace W := W.below hb
  clear hb
  obtain ⟨ly, y0, y1, y2, y3⟩ := HB.dec (t := 25) (g := w.heap.size + 1) (a := .bool false) (b := .int .u64 0) (c := .int .u64 0) (d := .int .i64 0) W (by simp)
  have Bz := HB.blk (g := w.heap.size + 1) (t := 25) (cs := #[.bool false, .int .u64 0, .int .u64 0, .int .i64 0]) W (by simp)
  have fz0 := Bz.frozen 0
  have fz1 := Bz.frozen 1
  have fz2 := Bz.frozen 2
  have fz3 := Bz.frozen 3
  clear Bz
  have HB1 := Lib.hid W.1
  clear W
  go_wp2
  exact bodyPost_ret (v := .agg #[.bool false, .int .u64 0, .int .u64 0, .int .i64 0]) (by simp [results, Tryz.results21, go_sem, y0, y1, y2, y3]) rfl ⟨_, rfl, rfl, bel4 HB1.out hle⟩
set_option maxRecDepth 100000 in
set_option maxHeartbeats 1600000 in
theorem rneg_t (a b s : Int) (w : World) (ha : U64 a) (hb1 : U64 b) (hr : RightD true a b s) :
    Calls Tryz.prog 21 #[.agg #[.bool true, .int .u64 a, .int .u64 b, .int .i64 s]] w (Ret w (· = .agg #[.bool false, .int .u64 a, .int .u64 b, .int .i64 s])) := by
  have W : HB w [(w.heap.size + 1, 25, #[.bool false, .int .u64 0, .int .u64 0, .int .i64 0]), (w.heap.size, 25, #[.bool true, .int .u64 a, .int .u64 b, .int .i64 s])] ((w.alloc (.cells #[.bool true, .int .u64 a, .int .u64 b, .int .i64 s] 25)).alloc (.cells #[.bool false, .int .u64 0, .int .u64 0, .int .i64 0] 25)) := by
    have h := ((HB.start (Below.refl _ w)).push #[.bool true, .int .u64 a, .int .u64 b, .int .i64 s] 25).push #[.bool false, .int .u64 0, .int .u64 0, .int .i64 0] 25
    simpa using h
  have hle : w.heap.size ≤ w.heap.size + 1 := by omega
  have hl0 : w.heap.size ≤ w.heap.size := Nat.le_refl _
  have HR := Lib.hid (decide_eq_true hr)
  clear hr
  go_enter Tryz.func21, Tryz.ntmps21
  go_wp2_with fail
  refine (rdec_v true a b s true _ ha hb1 HR.out).mono ?_
  rintro e w1 ⟨_, rfl, rfl, hb⟩
  replace W := W.below hb
  clear hb
  obtain ⟨ly, y0, y1, y2, y3⟩ := HB.dec (t := 25) (g := w.heap.size + 1) (a := .bool false) (b := .int .u64 0) (c := .int .u64 0) (d := .int .i64 0) W (by simp)
  have Bz := HB.blk (g := w.heap.size + 1) (t := 25) (cs := #[.bool false, .int .u64 0, .int .u64 0, .int .i64 0]) W (by simp)
  have fz0 := Bz.frozen 0
  have fz1 := Bz.frozen 1
  have fz2 := Bz.frozen 2
  have fz3 := Bz.frozen 3
  clear Bz
  obtain ⟨lq, q0, q1, q2, q3⟩ := HB.dec (t := 25) (g := w.heap.size) (a := .bool true) (b := .int .u64 a) (c := .int .u64 b) (d := .int .i64 s) W (by simp)
  have Bx := HB.blk (g := w.heap.size) (t := 25) (cs := #[.bool true, .int .u64 a, .int .u64 b, .int .i64 s]) W (by simp)
  have fx0 := Bx.frozen 0
  have fx1 := Bx.frozen 1
  have fx2 := Bx.frozen 2
  have fx3 := Bx.frozen 3
  clear Bx
  have HB1 := Lib.hid W.1
  clear W
  go_wp2
  exact bodyPost_ret (v := .agg #[.bool false, .int .u64 a, .int .u64 b, .int .i64 s]) (by simp [results, Tryz.results21, go_sem, y0, y1, y2, y3]) rfl ⟨_, rfl, rfl, bel4 (HB1.out.setCell hl0 _) hle⟩
set_option maxRecDepth 100000 in
set_option maxHeartbeats 1600000 in
theorem rneg_z (a b s : Int) (w : World) (ha : U64 a) (hb1 : U64 b) (hr : RightD false a b s) (hz : eqW2 a b 0 0 = true) :
    Calls Tryz.prog 21 #[.agg #[.bool false, .int .u64 a, .int .u64 b, .int .i64 s]] w (Ret w (· = .agg #[.bool false, .int .u64 a, .int .u64 b, .int .i64 s])) := by
  have W : HB w [(w.heap.size + 1, 25, #[.bool false, .int .u64 0, .int .u64 0, .int .i64 0]), (w.heap.size, 25, #[.bool false, .int .u64 a, .int .u64 b, .int .i64 s])] ((w.alloc (.cells #[.bool false, .int .u64 a, .int .u64 b, .int .i64 s] 25)).alloc (.cells #[.bool false, .int .u64 0, .int .u64 0, .int .i64 0] 25)) := by
    have h := ((HB.start (Below.refl _ w)).push #[.bool false, .int .u64 a, .int .u64 b, .int .i64 s] 25).push #[.bool false, .int .u64 0, .int .u64 0, .int .i64 0] 25
    simpa using h
  have hle : w.heap.size ≤ w.heap.size + 1 := by omega
  have hl0 : w.heap.size ≤ w.heap.size := Nat.le_refl _
  have HR := Lib.hid (decide_eq_true hr)
  clear hr
  go_enter Tryz.func21, Tryz.ntmps21
  go_wp2_with fail
  refine (rdec_v false a b s true _ ha hb1 HR.out).mono ?_
  rintro e w1 ⟨_, rfl, rfl, hb⟩
  replace W := W.below hb
  clear hb
  obtain ⟨ly, y0, y1, y2, y3⟩ := HB.dec (t := 25) (g := w.heap.size + 1) (a := .bool false) (b := .int .u64 0) (c := .int .u64 0) (d := .int .i64 0) W (by simp)
  have Bz := HB.blk (g := w.heap.size + 1) (t := 25) (cs := #[.bool false, .int .u64 0, .int .u64 0, .int .i64 0]) W (by simp)
  have fz0 := Bz.frozen 0
  have fz1 := Bz.frozen 1
  have fz2 := Bz.frozen 2
  have fz3 := Bz.frozen 3
  clear Bz
  obtain ⟨lq, q0, q1, q2, q3⟩ := HB.dec (t := 25) (g := w.heap.size) (a := .bool false) (b := .int .u64 a) (c := .int .u64 b) (d := .int .i64 s) W (by simp)
  have Bx := HB.blk (g := w.heap.size) (t := 25) (cs := #[.bool false, .int .u64 a, .int .u64 b, .int .i64 s]) W (by simp)
  have fx0 := Bx.frozen 0
  have fx1 := Bx.frozen 1
  have fx2 := Bx.frozen 2
  have fx3 := Bx.frozen 3
  clear Bx
  have HB1 := Lib.hid W.1
  clear W
  go_wp2
  exact bodyPost_ret (v := .agg #[.bool false, .int .u64 a, .int .u64 b, .int .i64 s]) (by simp [results, Tryz.results21, go_sem, y0, y1, y2, y3]) rfl ⟨_, rfl, rfl, bel4 (HB1.out.setCell hl0 _) hle⟩
set_option maxRecDepth 100000 in
set_option maxHeartbeats 1600000 in
theorem rneg_f (a b s : Int) (w : World) (ha : U64 a) (hb1 : U64 b) (hr : RightD false a b s) (hz : eqW2 a b 0 0 = false) :
    Calls Tryz.prog 21 #[.agg #[.bool false, .int .u64 a, .int .u64 b, .int .i64 s]] w (Ret w (· = .agg #[.bool true, .int .u64 a, .int .u64 b, .int .i64 s])) := by
  have W : HB w [(w.heap.size + 1, 25, #[.bool false, .int .u64 0, .int .u64 0, .int .i64 0]), (w.heap.size, 25, #[.bool false, .int .u64 a, .int .u64 b, .int .i64 s])] ((w.alloc (.cells #[.bool false, .int .u64 a, .int .u64 b, .int .i64 s] 25)).alloc (.cells #[.bool false, .int .u64 0, .int .u64 0, .int .i64 0] 25)) := by
    have h := ((HB.start (Below.refl _ w)).push #[.bool false, .int .u64 a, .int .u64 b, .int .i64 s] 25).push #[.bool false, .int .u64 0, .int .u64 0, .int .i64 0] 25
    simpa using h
  have hle : w.heap.size ≤ w.heap.size + 1 := by omega
  have hl0 : w.heap.size ≤ w.heap.size := Nat.le_refl _
  have HR := Lib.hid (decide_eq_true hr)
  clear hr
  go_enter Tryz.func21, Tryz.ntmps21
  go_wp2_with fail
  refine (rdec_v false a b s true _ ha hb1 HR.out).mono ?_
  rintro e w1 ⟨_, rfl, rfl, hb⟩
  replace W := W.below hb
  clear hb
  obtain ⟨ly, y0, y1, y2, y3⟩ := HB.dec (t := 25) (g := w.heap.size + 1) (a := .bool false) (b := .int .u64 0) (c := .int .u64 0) (d := .int .i64 0) W (by simp)
  have Bz := HB.blk (g := w.heap.size + 1) (t := 25) (cs := #[.bool false, .int .u64 0, .int .u64 0, .int .i64 0]) W (by simp)
  have fz0 := Bz.frozen 0
  have fz1 := Bz.frozen 1
  have fz2 := Bz.frozen 2
  have fz3 := Bz.frozen 3
  clear Bz
  obtain ⟨lq, q0, q1, q2, q3⟩ := HB.dec (t := 25) (g := w.heap.size) (a := .bool false) (b := .int .u64 a) (c := .int .u64 b) (d := .int .i64 s) W (by simp)
  have Bx := HB.blk (g := w.heap.size) (t := 25) (cs := #[.bool false, .int .u64 a, .int .u64 b, .int .i64 s]) W (by simp)
  have fx0 := Bx.frozen 0
  have fx1 := Bx.frozen 1
  have fx2 := Bx.frozen 2
  have fx3 := Bx.frozen 3
  clear Bx
  have HB1 := Lib.hid W.1
  clear W
  go_wp2
  exact bodyPost_ret (v := .agg #[.bool true, .int .u64 a, .int .u64 b, .int .i64 s]) (by simp [results, Tryz.results21, go_sem, y0, y1, y2, y3]) rfl ⟨_, rfl, rfl, bel4 (HB1.out.setCell hl0 _) hle⟩
theorem rneg_all (n : Bool) (a b s : Int) (w : World) (ha : U64 a) (hb1 : U64 b) :
    Calls Tryz.prog 21 #[.agg #[.bool n, .int .u64 a, .int .u64 b, .int .i64 s]] w (Ret w (AnsD (negV n a b s))) := by
  by_cases hr : RightD n a b s
  · have hv : negV n a b s = .agg #[.bool (sgn (!n) a b), .int .u64 a, .int .u64 b, .int .i64 s] := by
      obtain ⟨m', c', d', hd', ev'⟩ := decV_is (z := -(zOf n (v2 a b))) (s := s) (by rw [Int.natAbs_neg]; exact zof_30 hr)
      obtain ⟨e1, rfl, rfl⟩ := decIs_one (sgn_is (right_z ha hb1 hr)) hd'
      rw [negV, if_pos hr, ev', ← e1]
    have H : Calls Tryz.prog 21 #[.agg #[.bool n, .int .u64 a, .int .u64 b, .int .i64 s]] w (Ret w (· = .agg #[.bool (sgn (!n) a b), .int .u64 a, .int .u64 b, .int .i64 s])) := by
      cases n
      · cases hz : eqW2 a b 0 0
        · have e : sgn (!false) a b = true := by simp [sgn, hz]
          rw [e]
          exact rneg_f a b s w ha hb1 hr hz
        · have e : sgn (!false) a b = false := by simp [sgn, hz]
          rw [e]
          exact rneg_z a b s w ha hb1 hr hz
      · have e : sgn (!true) a b = false := by simp [sgn]
        rw [e]
        exact rneg_t a b s w ha hb1 hr
    exact H.mono fun e w' ⟨v, ev, he, hb⟩ => ⟨v, ⟨_, _, _, _, hv, ev⟩, he, hb⟩
  · exact (rneg_no a b s w ha hb1 n hr).mono fun e w' ⟨v, ev, he, hb⟩ => ⟨v, ⟨_, _, _, _, by rw [negV, if_neg hr]; exact zero_form, ev⟩, he, hb⟩
set_option maxRecDepth 100000 in
set_option maxHeartbeats 1600000 in
theorem rsign_no (a b s : Int) (w : World) (ha : U64 a) (hb1 : U64 b) (n : Bool) (hr : ¬ RightD n a b s) :
    Calls Tryz.prog 23 #[.agg #[.bool n, .int .u64 a, .int .u64 b, .int .i64 s]] w (Ret w (IsInt 0)) := by
  have W := d1 w n a b s
  have HR := Lib.hid (decide_eq_false hr)
  clear hr
  go_enter Tryz.func23, Tryz.ntmps23
  go_wp2_with fail
  refine (rdec_v n a b s false _ ha hb1 HR.out).mono ?_
  rintro e w1 ⟨_, rfl, rfl, hb⟩
  replace W := W.below hb
  clear hb
  obtain ⟨lq, q0, q1, q2, q3⟩ := HB.dec (t := 25) (g := w.heap.size) (a := .bool n) (b := .int .u64 a) (c := .int .u64 b) (d := .int .i64 s) W (by simp)
  have HB1 := Lib.hid W.1
  clear W
  go_wp2
  go_ret
  exact ⟨_, rfl, rfl, HB1.out⟩
set_option maxRecDepth 100000 in
set_option maxHeartbeats 1600000 in
theorem rsign_z (a b s : Int) (w : World) (ha : U64 a) (hb1 : U64 b) (n : Bool) (hr : RightD n a b s) (hz : eqW2 a b 0 0 = true) :
    Calls Tryz.prog 23 #[.agg #[.bool n, .int .u64 a, .int .u64 b, .int .i64 s]] w (Ret w (IsInt 0)) := by
  have W := d1 w n a b s
  have HR := Lib.hid (decide_eq_true hr)
  clear hr
  go_enter Tryz.func23, Tryz.ntmps23
  go_wp2_with fail
  refine (rdec_v n a b s true _ ha hb1 HR.out).mono ?_
  rintro e w1 ⟨_, rfl, rfl, hb⟩
  replace W := W.below hb
  clear hb
  obtain ⟨lq, q0, q1, q2, q3⟩ := HB.dec (t := 25) (g := w.heap.size) (a := .bool n) (b := .int .u64 a) (c := .int .u64 b) (d := .int .i64 s) W (by simp)
  have HB1 := Lib.hid W.1
  clear W
  go_wp2
  go_ret
  exact ⟨_, rfl, rfl, HB1.out⟩
set_option maxRecDepth 100000 in
set_option maxHeartbeats 1600000 in
theorem rsign_t (a b s : Int) (w : World) (ha : U64 a) (hb1 : U64 b) (hr : RightD true a b s) (hz : eqW2 a b 0 0 = false) :
    Calls Tryz.prog 23 #[.agg #[.bool true, .int .u64 a, .int .u64 b, .int .i64 s]] w (Ret w (IsInt (-1))) := by
  have W := d1 w true a b s
  have HR := Lib.hid (decide_eq_true hr)
  clear hr
  go_enter Tryz.func23, Tryz.ntmps23
  go_wp2_with fail
  refine (rdec_v true a b s true _ ha hb1 HR.out).mono ?_
  rintro e w1 ⟨_, rfl, rfl, hb⟩
  replace W := W.below hb
  clear hb
  obtain ⟨lq, q0, q1, q2, q3⟩ := HB.dec (t := 25) (g := w.heap.size) (a := .bool true) (b := .int .u64 a) (c := .int .u64 b) (d := .int .i64 s) W (by simp)
  have HB1 := Lib.hid W.1
  clear W
  go_wp2
  go_ret
  exact ⟨_, rfl, rfl, HB1.out⟩
set_option maxRecDepth 100000 in
set_option maxHeartbeats 1600000 in
theorem rsign_f (a b s : Int) (w : World) (ha : U64 a) (hb1 : U64 b) (hr : RightD false a b s) (hz : eqW2 a b 0 0 = false) :
    Calls Tryz.prog 23 #[.agg #[.bool false, .int .u64 a, .int .u64 b, .int .i64 s]] w (Ret w (IsInt 1)) := by
  have W := d1 w false a b s
  have HR := Lib.hid (decide_eq_true hr)
  clear hr
  go_enter Tryz.func23, Tryz.ntmps23
  go_wp2_with fail
  refine (rdec_v false a b s true _ ha hb1 HR.out).mono ?_
  rintro e w1 ⟨_, rfl, rfl, hb⟩
  replace W := W.below hb
  clear hb
  obtain ⟨lq, q0, q1, q2, q3⟩ := HB.dec (t := 25) (g := w.heap.size) (a := .bool false) (b := .int .u64 a) (c := .int .u64 b) (d := .int .i64 s) W (by simp)
  have HB1 := Lib.hid W.1
  clear W
  go_wp2
  go_ret
  exact ⟨_, rfl, rfl, HB1.out⟩
theorem sign_f {N : Nat} (h : N ≠ 0) : (zOf false N).sign = 1 := by
  unfold zOf
  exact sign_pos (by simp; omega)
theorem sign_t {N : Nat} (h : N ≠ 0) : (zOf true N).sign = -1 := by
  unfold zOf
  exact sign_neg (by simp; omega)
theorem sign_0 (n : Bool) : (zOf n 0).sign = 0 := by cases n <;> rfl
theorem rsign_all (n : Bool) (a b s : Int) (w : World) (ha : U64 a) (hb1 : U64 b) :
    Calls Tryz.prog 23 #[.agg #[.bool n, .int .u64 a, .int .u64 b, .int .i64 s]] w (Ret w (IsInt (signV n a b s))) := by
  by_cases hr : RightD n a b s
  · rw [signV, if_pos hr]
    cases hz : eqW2 a b 0 0
    · have h0 : v2 a b ≠ 0 := fun e => by rw [eqW2_0 ha hb1, e] at hz; simp at hz
      cases n
      · rw [sign_f h0]
        exact rsign_f a b s w ha hb1 hr hz
      · rw [sign_t h0]
        exact rsign_t a b s w ha hb1 hr hz
    · have h0 : v2 a b = 0 := by rw [eqW2_0 ha hb1] at hz; simpa using hz
      rw [h0, sign_0]
      exact rsign_z a b s w ha hb1 n hr hz
  · rw [signV, if_neg hr]
    exact rsign_no a b s w ha hb1 n hr
end Go.Proofs.YtlhceelkefgjhaaGreatDoor

/- Package pyxref1 at any decimals: RightDec, digits, Make, Neg, Sign. -/
import Derived.Test.YtakofbkbbmpfeabRefP
import Derived.Test.YtakofbkbbmpfeabDecJ
import Derived.Deep.RegionHeld3
import Derived.IntWalk
namespace Go.Proofs.Ytakofbkbbmpfeab
open Go.RowKit
theorem dig_zero {w : World} {A : Option Addr} {n cap : Nat} {ds : List Nat} (h : DigC w A n cap ds) (hn : n = 0) : dv ds = 0 := by
  have := dv_le_pow h
  rw [hn] at this
  simp at this
  exact this
theorem dig_over {w : World} {A : Option Addr} {n cap N : Nat} {ds : List Nat} (h : DigC w A n cap ds) (e : dv ds = N) (ho : 1000000000000000000000000000000 ≤ N) : ¬ n ≤ 30 := fun hle => by
  have h1 := Nat.lt_of_lt_of_le (dv_le_pow h) (Nat.pow_le_pow_right (by decide) hle)
  rw [e] at h1
  exact absurd h1 (Nat.not_lt.2 ho)
theorem v2_40 {a b : Int} (ha : U64 a) (hb : U64 b) : v2 a b < 10 ^ 40 := Nat.lt_trans (v2_lt ha hb) (by decide)
/-- The decimal that was handed in lies there. -/
def DS (w0 : World) (n : Bool) (a b s : Int) (w : World) : Prop := HB w0 [(w0.heap.size, 49, #[.bool n, .int .u64 a, .int .u64 b, .int .i64 s])] w
theorem dsMk {w0 w : World} {n : Bool} {a b s : Int} (h : DS w0 n a b s w) : DS w0 n a b s w ∧ w.cell? ⟨w0.heap.size, 0, none⟩ = some (.bool n) ∧ w.cell? ⟨w0.heap.size, 1, none⟩ = some (.int .u64 a) ∧ w.cell? ⟨w0.heap.size, 2, none⟩ = some (.int .u64 b) ∧ w.cell? ⟨w0.heap.size, 3, none⟩ = some (.int .i64 s) :=
  ⟨h, (HB.dec (t := 49) h (by simp)).2⟩
set_option maxRecDepth 100000 in
set_option maxHeartbeats 1600000 in
theorem make_over (neg : Bool) (A : Option Addr) (n cap : Nat) (ds : List Nat) (N : Nat) (s : Int) (w : World) (h : DigC w A n cap ds) (e : dv ds = N) (ho : 1000000000000000000000000000000 ≤ N) :
    Calls Try.prog 22 #[.bool neg, .slice A n cap, .int .i64 s] w (Ret w (Ans (errV 3))) := by
  have W : HB w [(w.heap.size, 49, #[.bool false, .int .u64 0, .int .u64 0, .int .i64 0])] (w.alloc (.cells #[.bool false, .int .u64 0, .int .u64 0, .int .i64 0] 49)) := (HB.start (Below.refl _ w)).push #[.bool false, .int .u64 0, .int .u64 0, .int .i64 0] 49
  have hlg : w.heap.size ≤ w.heap.size := Nat.le_refl _
  have l30 : (30 : Int) < (n : Int) := by have := dig_over h e ho; omega
  clear ho
  obtain ⟨lq, q0, q1, q2, q3⟩ := HB.dec (t := 49) (g := w.heap.size) (a := .bool false) (b := .int .u64 0) (c := .int .u64 0) (d := .int .i64 0) W (by simp)
  have Bz := HB.blk (g := w.heap.size) (t := 49) (cs := #[.bool false, .int .u64 0, .int .u64 0, .int .i64 0]) W (by simp)
  have fz0 := Bz.frozen 0
  have fz1 := Bz.frozen 1
  have fz2 := Bz.frozen 2
  have fz3 := Bz.frozen 3
  clear Bz
  have HB1 := Lib.hid W.1
  clear W h e
  go_enter Try.func22, Try.ntmps22
  go_wp2
  exact bodyPost_ret (v := .tuple #[.agg #[.bool false, .int .u64 0, .int .u64 0, .int .i64 0], .int .i64 3]) (by simp [results, Try.results22, go_sem, q0, q1, q2, q3]) rfl ⟨_, ans_err 3, rfl, HB1.out⟩
set_option maxRecDepth 100000 in
set_option maxHeartbeats 1600000 in
theorem make_neg (neg : Bool) (A : Option Addr) (n cap : Nat) (s : Int) (w : World) (hn : n ≤ 30) (hs : s < 0) :
    Calls Try.prog 22 #[.bool neg, .slice A n cap, .int .i64 s] w (Ret w (Ans (errV 3))) := by
  have W : HB w [(w.heap.size, 49, #[.bool false, .int .u64 0, .int .u64 0, .int .i64 0])] (w.alloc (.cells #[.bool false, .int .u64 0, .int .u64 0, .int .i64 0] 49)) := (HB.start (Below.refl _ w)).push #[.bool false, .int .u64 0, .int .u64 0, .int .i64 0] 49
  have hlg : w.heap.size ≤ w.heap.size := Nat.le_refl _
  have l30 : decide ((30 : Int) < (n : Int)) = false := by simp; omega
  obtain ⟨lq, q0, q1, q2, q3⟩ := HB.dec (t := 49) (g := w.heap.size) (a := .bool false) (b := .int .u64 0) (c := .int .u64 0) (d := .int .i64 0) W (by simp)
  have Bz := HB.blk (g := w.heap.size) (t := 49) (cs := #[.bool false, .int .u64 0, .int .u64 0, .int .i64 0]) W (by simp)
  have fz0 := Bz.frozen 0
  have fz1 := Bz.frozen 1
  have fz2 := Bz.frozen 2
  have fz3 := Bz.frozen 3
  clear Bz
  have HB1 := Lib.hid W.1
  clear W
  go_enter Try.func22, Try.ntmps22
  go_wp2
  exact bodyPost_ret (v := .tuple #[.agg #[.bool false, .int .u64 0, .int .u64 0, .int .i64 0], .int .i64 3]) (by simp [results, Try.results22, go_sem, q0, q1, q2, q3]) rfl ⟨_, ans_err 3, rfl, HB1.out⟩
set_option maxRecDepth 100000 in
set_option maxHeartbeats 1600000 in
theorem make_far (neg : Bool) (A : Option Addr) (n cap : Nat) (s : Int) (w : World) (hn : n ≤ 30) (hs : 9 < s) :
    Calls Try.prog 22 #[.bool neg, .slice A n cap, .int .i64 s] w (Ret w (Ans (errV 3))) := by
  have W : HB w [(w.heap.size, 49, #[.bool false, .int .u64 0, .int .u64 0, .int .i64 0])] (w.alloc (.cells #[.bool false, .int .u64 0, .int .u64 0, .int .i64 0] 49)) := (HB.start (Below.refl _ w)).push #[.bool false, .int .u64 0, .int .u64 0, .int .i64 0] 49
  have hlg : w.heap.size ≤ w.heap.size := Nat.le_refl _
  have l30 : decide ((30 : Int) < (n : Int)) = false := by simp; omega
  have g2 : decide (s < 0) = false := by simp; omega
  obtain ⟨lq, q0, q1, q2, q3⟩ := HB.dec (t := 49) (g := w.heap.size) (a := .bool false) (b := .int .u64 0) (c := .int .u64 0) (d := .int .i64 0) W (by simp)
  have Bz := HB.blk (g := w.heap.size) (t := 49) (cs := #[.bool false, .int .u64 0, .int .u64 0, .int .i64 0]) W (by simp)
  have fz0 := Bz.frozen 0
  have fz1 := Bz.frozen 1
  have fz2 := Bz.frozen 2
  have fz3 := Bz.frozen 3
  clear Bz
  have HB1 := Lib.hid W.1
  clear W
  go_enter Try.func22, Try.ntmps22
  go_wp2
  exact bodyPost_ret (v := .tuple #[.agg #[.bool false, .int .u64 0, .int .u64 0, .int .i64 0], .int .i64 3]) (by simp [results, Try.results22, go_sem, q0, q1, q2, q3]) rfl ⟨_, ans_err 3, rfl, HB1.out⟩
theorem make_all (neg : Bool) (A : Option Addr) (n cap : Nat) (ds : List Nat) (N : Nat) (s : Int) (w : World) (h : DigC w A n cap ds) (hn : Norm ds) (e : dv ds = N) :
    Calls Try.prog 22 #[.bool neg, .slice A n cap, .int .i64 s] w (Ret w (Ans (chkV neg N s))) := by
  by_cases hN : N < 1000000000000000000000000000000
  · have l30 : n ≤ 30 := lenA h hn (by rw [e]; exact hN)
    by_cases h0 : 0 ≤ s
    · by_cases h9 : s ≤ 9
      · refine (make_c neg A n cap ds N s w h hn e hN h0 h9).mono ?_
        rintro e w' ⟨v, ⟨m, c, d, hd, ev⟩, he, hb⟩
        obtain ⟨m', c', d', hd', ev'⟩ := decV_is (z := zOf neg N) (s := s) (by rw [zOf_abs]; exact hN)
        obtain ⟨rfl, rfl, rfl⟩ := decIs_one hd hd'
        exact ⟨v, ⟨m, c, d, s, 0, by rw [chkV, if_pos ⟨hN, h0, h9⟩, okV, ev'], ev⟩, he, hb⟩
      · exact ans_of (make_far neg A n cap s w l30 (by omega)) (by rw [chkV, if_neg (fun h => h9 h.2.2)])
    · exact ans_of (make_neg neg A n cap s w l30 (by omega)) (by rw [chkV, if_neg (fun h => h0 h.2.1)])
  · exact ans_of (make_over neg A n cap ds N s w h e (Nat.le_of_not_lt hN)) (by rw [chkV, if_neg (fun h => hN h.1)])
theorem sign_f {N : Nat} (h : N ≠ 0) : (zOf false N).sign = 1 := by
  unfold zOf
  exact sign_pos (by simp; omega)
theorem sign_t {N : Nat} (h : N ≠ 0) : (zOf true N).sign = -1 := by
  unfold zOf
  exact sign_neg (by simp; omega)
theorem sign_0 (n : Bool) : (zOf n 0).sign = 0 := by cases n <;> rfl
end Go.Proofs.Ytakofbkbbmpfeab

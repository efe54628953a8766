/- pyxhand.Dec: whatever is drawn, some decimal, right or not. -/
import Derived.Test.YtakofbkbbmpfeaaRefP
import Derived.Test.YtakofbkbbmpfeaaHand
namespace Go.Proofs.Ytakofbkbbmpfeaa
open Go.RowKit
def AnyD (v : Value) : Prop := ∃ (n : Bool) (a b s : Int), U64 a ∧ U64 b ∧ -1 ≤ s ∧ s ≤ 10 ∧ v = .agg #[.bool n, .int .u64 a, .int .u64 b, .int .i64 s]
def I64 (x : Int) : Prop := -9223372036854775808 ≤ x ∧ x ≤ 9223372036854775807
theorem i64_of {n : Int} (h : (Lit.int .i64 n).wf = true) : I64 n := by
  simp [Lit.wf, IntKind.min, IntKind.max, IntKind.signed, IntKind.bits] at h
  unfold I64
  omega
set_option maxRecDepth 100000 in
set_option maxHeartbeats 3200000 in
theorem handDec_c (n s b : Int) (w : World) (hn : I64 n) : Calls Try.prog 21 #[.int .i64 n, .int .i64 s, .int .i64 b] w (Ret w AnyD) := by
  have HN := Lib.hid (show -9223372036854775808 ≤ n ∧ n ≤ 9223372036854775807 from hn)
  clear hn
  have W : HB w [(w.heap.size, 49, #[.bool false, .int .u64 0, .int .u64 0, .int .i64 0])] (w.alloc (.cells #[.bool false, .int .u64 0, .int .u64 0, .int .i64 0] 49)) := (HB.start (Below.refl _ w)).push #[.bool false, .int .u64 0, .int .u64 0, .int .i64 0] 49
  obtain ⟨lq, q0, q1, q2, q3⟩ := HB.dec (t := 49) (g := w.heap.size) (a := .bool false) (b := .int .u64 0) (c := .int .u64 0) (d := .int .i64 0) W (by simp)
  have hle : w.heap.size ≤ w.heap.size := Nat.le_refl _
  go_enter Try.func21, Try.ntmps21
  go_wp2_with fail
  (with_reducible refine (pick_c b 11 _ (by omega) (by omega)).mono ?_)
  rintro e w' ⟨_, ⟨r, ⟨r0, r11⟩, rfl⟩, rfl, rfl⟩
  obtain ⟨u, hu⟩ : ∃ u : Int, IntKind.u64.wrap n = u := ⟨_, rfl⟩
  obtain ⟨x, hx⟩ : ∃ u : Int, IntKind.u64.wrap s = u := ⟨_, rfl⟩
  have UU := Lib.hid (show U64 u by rw [← hu]; exact u64_wrap n)
  have UX := Lib.hid (show U64 x by rw [← hx]; exact u64_wrap s)
  rcases (show r = 0 ∨ r = 1 ∨ r = 2 ∨ r = 3 ∨ (r ≠ 0 ∧ r ≠ 1 ∧ r ≠ 2 ∧ r ≠ 3) by omega) with rfl | rfl | rfl | rfl | ⟨h0, h1, h2, h3⟩
  · go_wp2_with fail
    (with_reducible refine (pick_c n 12 _ (by omega) (by omega)).mono ?_)
    rintro e w' ⟨_, ⟨k, ⟨k0, k12⟩, rfl⟩, rfl, rfl⟩
    have Bz := HB.blk (g := w.heap.size) (t := 49) (cs := #[.bool false, .int .u64 0, .int .u64 0, .int .i64 0]) W (by simp)
    have fz0 := Bz.frozen 0
    have fz1 := Bz.frozen 1
    have fz2 := Bz.frozen 2
    have fz3 := Bz.frozen 3
    have HB1 := Lib.hid W.1
    clear Bz W
    go_wp2
    exact bodyPost_ret (v := .agg #[.bool (b.tmod 2 == 0), .int .u64 u, .int .u64 x, .int .i64 (k - 1)]) (by simp [results, Try.results21, go_sem]) rfl ⟨_, ⟨_, _, _, _, UU.out, UX.out, by omega, by omega, rfl⟩, rfl, bel_alloc (Below.refl _ _) _⟩
  · have e1 : ∀ k : Int, 0 ≤ k → k < 54210108624 → IntKind.u64.wrap k = k := fun k h h' => by rw [IntKind.wrap_u64]; omega
    go_wp2_with fail
    (with_reducible refine (pick_c s 54210108624 _ (by omega) (by omega)).mono ?_)
    rintro e w' ⟨_, ⟨k, ⟨k0, km⟩, rfl⟩, rfl, rfl⟩
    have ek := e1 k k0 km
    have UK := Lib.hid (show U64 k by unfold U64; omega)
    clear e1
    go_wp2_with fail
    (with_reducible refine (pick_c _ 10 _ (by omega) (by omega)).mono ?_)
    rintro e w' ⟨_, ⟨j, ⟨j0, jm⟩, rfl⟩, rfl, rfl⟩
    have Bz := HB.blk (g := w.heap.size) (t := 49) (cs := #[.bool false, .int .u64 0, .int .u64 0, .int .i64 0]) W (by simp)
    have fz0 := Bz.frozen 0
    have fz1 := Bz.frozen 1
    have fz2 := Bz.frozen 2
    have fz3 := Bz.frozen 3
    have HB1 := Lib.hid W.1
    clear Bz W
    go_wp2
    exact bodyPost_ret (v := .agg #[.bool (n.tmod 2 == 0), .int .u64 u, .int .u64 k, .int .i64 j]) (by simp [results, Try.results21, go_sem]) rfl ⟨_, ⟨_, _, _, _, UU.out, UK.out, by omega, by omega, rfl⟩, rfl, bel_alloc (Below.refl _ _) _⟩
  · clear hu hx
    go_wp2_with fail
    (with_reducible refine (pick_c n 7 _ (by omega) (by omega)).mono ?_)
    rintro e w' ⟨_, ⟨k, ⟨k0, km⟩, rfl⟩, rfl, rfl⟩
    go_wp2_with fail
    (with_reducible refine (pick_c s 10 _ (by omega) (by omega)).mono ?_)
    rintro e w' ⟨_, ⟨j, ⟨j0, jm⟩, rfl⟩, rfl, rfl⟩
    go_wp2_with fail
    (with_reducible refine (refOf_c (k - 3) j _ (by omega) (by omega) (by omega) (by omega)).mono ?_)
    rintro e w1 ⟨_, ⟨n1, a1, b1, hd, rfl⟩, rfl, hb⟩
    have u1 := hd.2.1
    have u2 := hd.2.2.1
    clear hd
    replace W := W.below hb
    clear hb lq q0 q1 q2 q3
    obtain ⟨lq, q0, q1, q2, q3⟩ := HB.dec (t := 49) (g := w.heap.size) (a := .bool false) (b := .int .u64 0) (c := .int .u64 0) (d := .int .i64 0) W (by simp)
    have Bz := HB.blk (g := w.heap.size) (t := 49) (cs := #[.bool false, .int .u64 0, .int .u64 0, .int .i64 0]) W (by simp)
    have fz0 := Bz.frozen 0
    have fz1 := Bz.frozen 1
    have fz2 := Bz.frozen 2
    have fz3 := Bz.frozen 3
    have HB1 := Lib.hid W.1
    clear Bz W
    go_wp2
    exact bodyPost_ret (v := .agg #[.bool n1, .int .u64 a1, .int .u64 b1, .int .i64 j]) (by simp [results, Try.results21, go_sem, q0, q1, q2, q3]) rfl ⟨_, ⟨_, _, _, _, u1, u2, by omega, by omega, rfl⟩, rfl, bel4 HB1.out hle⟩
  · clear hu hx
    go_wp2_with fail
    (with_reducible refine (pick_c s 10 _ (by omega) (by omega)).mono ?_)
    rintro e w' ⟨_, ⟨j, ⟨j0, jm⟩, rfl⟩, rfl, rfl⟩
    go_wp2_with fail
    (with_reducible refine (refOf_c n j _ HN.out.1 HN.out.2 (by omega) (by omega)).mono ?_)
    rintro e w1 ⟨_, ⟨n1, a1, b1, hd, rfl⟩, rfl, hb⟩
    have u1 := hd.2.1
    have u2 := hd.2.2.1
    clear hd
    replace W := W.below hb
    clear hb lq q0 q1 q2 q3
    obtain ⟨lq, q0, q1, q2, q3⟩ := HB.dec (t := 49) (g := w.heap.size) (a := .bool false) (b := .int .u64 0) (c := .int .u64 0) (d := .int .i64 0) W (by simp)
    have Bz := HB.blk (g := w.heap.size) (t := 49) (cs := #[.bool false, .int .u64 0, .int .u64 0, .int .i64 0]) W (by simp)
    have fz0 := Bz.frozen 0
    have fz1 := Bz.frozen 1
    have fz2 := Bz.frozen 2
    have fz3 := Bz.frozen 3
    have HB1 := Lib.hid W.1
    clear Bz W
    go_wp2
    exact bodyPost_ret (v := .agg #[.bool n1, .int .u64 a1, .int .u64 b1, .int .i64 j]) (by simp [results, Try.results21, go_sem, q0, q1, q2, q3]) rfl ⟨_, ⟨_, _, _, _, u1, u2, by omega, by omega, rfl⟩, rfl, bel4 HB1.out hle⟩
  · clear hu hx
    have g0 : (r == 0) = false := by simp; omega
    have g1 : (r == 1) = false := by simp; omega
    have g2 : (r == 2) = false := by simp; omega
    have g3 : (r == 3) = false := by simp; omega
    go_wp2_with fail
    (with_reducible refine (pick_c n 2000000 _ (by omega) (by omega)).mono ?_)
    rintro e w' ⟨_, ⟨k, ⟨k0, km⟩, rfl⟩, rfl, rfl⟩
    go_wp2_with fail
    (with_reducible refine (pick_c s 10 _ (by omega) (by omega)).mono ?_)
    rintro e w' ⟨_, ⟨j, ⟨j0, jm⟩, rfl⟩, rfl, rfl⟩
    go_wp2_with fail
    (with_reducible refine (refOf_c (k - 1000000) j _ (by omega) (by omega) (by omega) (by omega)).mono ?_)
    rintro e w1 ⟨_, ⟨n1, a1, b1, hd, rfl⟩, rfl, hb⟩
    have u1 := hd.2.1
    have u2 := hd.2.2.1
    clear hd
    replace W := W.below hb
    clear hb lq q0 q1 q2 q3
    obtain ⟨lq, q0, q1, q2, q3⟩ := HB.dec (t := 49) (g := w.heap.size) (a := .bool false) (b := .int .u64 0) (c := .int .u64 0) (d := .int .i64 0) W (by simp)
    have Bz := HB.blk (g := w.heap.size) (t := 49) (cs := #[.bool false, .int .u64 0, .int .u64 0, .int .i64 0]) W (by simp)
    have fz0 := Bz.frozen 0
    have fz1 := Bz.frozen 1
    have fz2 := Bz.frozen 2
    have fz3 := Bz.frozen 3
    have HB1 := Lib.hid W.1
    clear Bz W
    go_wp2
    exact bodyPost_ret (v := .agg #[.bool n1, .int .u64 a1, .int .u64 b1, .int .i64 j]) (by simp [results, Try.results21, go_sem, q0, q1, q2, q3]) rfl ⟨_, ⟨_, _, _, _, u1, u2, by omega, by omega, rfl⟩, rfl, bel4 HB1.out hle⟩
end Go.Proofs.Ytakofbkbbmpfeaa

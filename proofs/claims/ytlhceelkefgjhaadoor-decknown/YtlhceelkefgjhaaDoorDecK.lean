/- Package dec at given decimals: answers as values. -/
import Derived.Test.YtlhceelkefgjhaaDoorTextM
import Derived.Test.YtlhceelkefgjhaaDoorDecJ
import Derived.Test.YtlhceelkefgjhaaDoorGreatA
namespace Go.Proofs.YtlhceelkefgjhaaDoor
open Go.RowKit
set_option maxRecDepth 100000 in
set_option maxHeartbeats 1600000 in
theorem dOf_k (z s r1 r : Int) (n : Bool) (a : Int) (w : World) (hlo : -1000000000 ≤ z) (hhi : z ≤ 1000000000) (hmx : max s 0 = r1) (hmn : min r1 9 = r) (hn : n = decide (z < 0)) (ha : a = (z.natAbs : Int)) :
    Calls Tryd.prog 6 #[.int .i64 z, .int .i64 s] w (Ret w (· = .agg #[.bool n, .int .u64 a, .int .u64 0, .int .i64 r])) := by
  subst hn ha
  have W : HB w [(w.heap.size, 26, #[.bool false, .int .u64 0, .int .u64 0, .int .i64 0])] (w.alloc (.cells #[.bool false, .int .u64 0, .int .u64 0, .int .i64 0] 26)) := (HB.start (Below.refl _ w)).push #[.bool false, .int .u64 0, .int .u64 0, .int .i64 0] 26
  have hlg : w.heap.size ≤ w.heap.size := Nat.le_refl _
  rcases Int.lt_or_le z 0 with hz | hz
  · rw [decide_eq_true hz, show (z.natAbs : Int) = -z by omega]
    have hw : IntKind.u64.wrap z = z + 18446744073709551616 := by rw [IntKind.wrap_u64]; omega
    have hw2 : IntKind.u64.wrap (-(z + 18446744073709551616)) = -z := by rw [IntKind.wrap_u64]; omega
    obtain ⟨u, hu⟩ : ∃ u, z + 18446744073709551616 = u := ⟨_, rfl⟩
    rw [hu] at hw hw2
    clear hu
    go_enter Tryd.func6, Tryd.ntmps6
    go_wp2_with fail
    refine (of_c (-z) _).mono ?_
    rintro e w1 ⟨_, rfl, rfl, hb⟩
    replace W := W.below hb
    clear hb
    obtain ⟨lq, y0, y1, y2, y3⟩ := HB.dec (t := 26) (g := w.heap.size) (a := .bool false) (b := .int .u64 0) (c := .int .u64 0) (d := .int .i64 0) W (by simp)
    have Bz := HB.blk (g := w.heap.size) (t := 26) (cs := #[.bool false, .int .u64 0, .int .u64 0, .int .i64 0]) W (by simp)
    have fz0 := Bz.frozen 0
    have fz1 := Bz.frozen 1
    have fz2 := Bz.frozen 2
    have fz3 := Bz.frozen 3
    clear Bz
    have HB1 := Lib.hid W.1
    clear W
    go_wp2
    exact bodyPost_ret (v := .agg #[.bool true, .int .u64 (-z), .int .u64 0, .int .i64 r]) (by simp [results, Tryd.results6, go_sem, y0, y1, y2, y3]) rfl ⟨_, rfl, rfl, bel4 HB1.out hlg⟩
  · rw [decide_eq_false (Int.not_lt.2 hz), show (z.natAbs : Int) = z by omega]
    have hw : IntKind.u64.wrap z = z := by rw [IntKind.wrap_u64]; omega
    go_enter Tryd.func6, Tryd.ntmps6
    go_wp2_with fail
    refine (of_c z _).mono ?_
    rintro e w1 ⟨_, rfl, rfl, hb⟩
    replace W := W.below hb
    clear hb
    obtain ⟨lq, y0, y1, y2, y3⟩ := HB.dec (t := 26) (g := w.heap.size) (a := .bool false) (b := .int .u64 0) (c := .int .u64 0) (d := .int .i64 0) W (by simp)
    have Bz := HB.blk (g := w.heap.size) (t := 26) (cs := #[.bool false, .int .u64 0, .int .u64 0, .int .i64 0]) W (by simp)
    have fz0 := Bz.frozen 0
    have fz1 := Bz.frozen 1
    have fz2 := Bz.frozen 2
    have fz3 := Bz.frozen 3
    clear Bz
    have HB1 := Lib.hid W.1
    clear W
    go_wp2
    exact bodyPost_ret (v := .agg #[.bool false, .int .u64 z, .int .u64 0, .int .i64 r]) (by simp [results, Tryd.results6, go_sem, y0, y1, y2, y3, Int.not_lt.2 hz]) rfl ⟨_, rfl, rfl, bel4 HB1.out hlg⟩
theorem ans_eq {V v : Value} (h : Ans V v) : v = V := by
  obtain ⟨m, c, d, q, e, h1, h2⟩ := h
  rw [h1, h2]
theorem ansD_eq {V v : Value} (h : AnsD V v) : v = V := by
  obtain ⟨m, c, d, q, h1, h2⟩ := h
  rw [h1, h2]
theorem ret_eq {w : World} {Q : Value → Prop} {V : Value} (hQ : ∀ v, Q v → v = V) : ∀ e w', Ret w Q e w' → Ret w (· = V) e w' := fun _ _ ⟨v, hv, he, hb⟩ => ⟨v, hQ v hv, he, hb⟩
section
variable {n n' : Bool} {a b s a' b' s' t : Int} {V : Value} {w : World}
theorem add_k (ha : U64 a) (hb : U64 b) (ha' : U64 a') (hb' : U64 b') (hV : addV n a b s n' a' b' s' = V) :
    Calls Tryd.prog 5 #[.agg #[.bool n, .int .u64 a, .int .u64 b, .int .i64 s], .agg #[.bool n', .int .u64 a', .int .u64 b', .int .i64 s']] w (Ret w (· = V)) := by
  subst hV
  exact (add_all n a b s n' a' b' s' w ha hb ha' hb').mono (ret_eq fun _ => ans_eq)
theorem sub_k (ha : U64 a) (hb : U64 b) (ha' : U64 a') (hb' : U64 b') (hV : subV n a b s n' a' b' s' = V) :
    Calls Tryd.prog 9 #[.agg #[.bool n, .int .u64 a, .int .u64 b, .int .i64 s], .agg #[.bool n', .int .u64 a', .int .u64 b', .int .i64 s']] w (Ret w (· = V)) := by
  subst hV
  exact (sub_all n a b s n' a' b' s' w ha hb ha' hb').mono (ret_eq fun _ => ans_eq)
theorem mul_k (ha : U64 a) (hb : U64 b) (ha' : U64 a') (hb' : U64 b') (hV : mulV n a b s n' a' b' s' = V) :
    Calls Tryd.prog 7 #[.agg #[.bool n, .int .u64 a, .int .u64 b, .int .i64 s], .agg #[.bool n', .int .u64 a', .int .u64 b', .int .i64 s']] w (Ret w (· = V)) := by
  subst hV
  exact (mul_all n a b s n' a' b' s' w ha hb ha' hb').mono (ret_eq fun _ => ans_eq)
theorem scaled_k (ha : U64 a) (hb : U64 b) (hV : scaledV n a b s t = V) :
    Calls Tryd.prog 8 #[.agg #[.bool n, .int .u64 a, .int .u64 b, .int .i64 s], .int .i64 t] w (Ret w (· = V)) := by
  subst hV
  exact (scaled_all n a b s t w ha hb).mono (ret_eq fun _ => ans_eq)
theorem neg_k (ha : U64 a) (hb : U64 b) (hV : negV n a b s = V) :
    Calls Tryd.prog 14 #[.agg #[.bool n, .int .u64 a, .int .u64 b, .int .i64 s]] w (Ret w (· = V)) := by
  subst hV
  exact (neg_all n a b s w ha hb).mono (ret_eq fun _ => ansD_eq)
end
theorem u64_k {a : Int} (h : 0 ≤ a ∧ a < 18446744073709551616) : U64 a := h
/-- The greatest number of thirty digits. -/
theorem k_add1 : addV false 15 0 1 true 150 0 2 = .tuple #[.agg #[.bool false, .int .u64 0, .int .u64 0, .int .i64 2], .int .i64 0] := by kernel_rfl
end Go.Proofs.YtlhceelkefgjhaaDoor

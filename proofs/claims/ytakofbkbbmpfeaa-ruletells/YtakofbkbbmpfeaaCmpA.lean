/- dec.Cmp, dec.Sign at any decimals. -/
import Derived.Test.YtakofbkbbmpfeaaDecJ
import Derived.Test.YtakofbkbbmpfeaaOrd2
namespace Go.Proofs.Ytakofbkbbmpfeaa
open Go.RowKit
/-- A right decimal's number (the Scales stand beside it for the walks' sake). -/
def Gt (z _s _t : Int) : Prop := z.natAbs < 1000000000000000000000000000000
theorem gt_30 {z s t : Int} (h : Gt z s t) : z.natAbs < 1000000000000000000000000000000 := h
theorem up_dec {n : Bool} {a b z s t : Int} (h : DecIs n a b z) : upW a b s t = upN z s t := by
  unfold upW upN
  rw [h.2.2.2]
/-- What two numbers at one Scale come to, where one has no room. -/
theorem cmp_room {a b s a' b' s' t : Int} (hl : v2 a b < 1000000000000000000000000000000) (hl' : v2 a' b' < 1000000000000000000000000000000) (ht : (s < s' ∧ s' = t) ∨ (s' ≤ s ∧ s = t)) (hov : 340282366920938463463374607431768211456 ≤ upW a b s t ∨ 340282366920938463463374607431768211456 ≤ upW a' b' s' t) :
    Lib.compareInt s' s = cmpI (upW a b s t) (upW a' b' s' t) := by
  have own : ∀ x y u : Int, upW x y u u = v2 x y := fun x y u => by unfold upW; simp
  unfold Lib.compareInt cmpI
  rcases ht with ⟨h, rfl⟩ | ⟨h, rfl⟩
  · rw [own a' b' s'] at hov ⊢
    rw [if_neg (by omega), if_pos (by omega), if_neg (by omega), if_neg (by omega)]
  · rw [own a b s] at hov ⊢
    by_cases e : s' = s
    · subst e
      rw [own a' b' s'] at hov
      omega
    · rw [if_pos (by omega), if_neg (by omega), if_pos (by omega)]
theorem sz2_yes {M N : Nat} {x y x' y' : Int} {p p' : Bool} (h : Sz M x y p) (h' : Sz N x' y' p') (hp : (p && p') = true) : U64 x ∧ U64 y ∧ U64 x' ∧ U64 y' ∧ v2 x y = M ∧ v2 x' y' = N := by
  obtain ⟨u, v, ⟨_, _, e⟩ | ⟨_, e, _⟩⟩ := h
  · obtain ⟨u', v', ⟨_, _, e'⟩ | ⟨_, e', _⟩⟩ := h'
    · exact ⟨u, v, u', v', e, e'⟩
    · rw [e'] at hp; simp at hp
  · rw [e] at hp; simp at hp
theorem sz2_no {M N : Nat} {x y x' y' : Int} {p p' : Bool} (h : Sz M x y p) (h' : Sz N x' y' p') (hp : (p && p') = false) : 340282366920938463463374607431768211456 ≤ M ∨ 340282366920938463463374607431768211456 ≤ N := by
  obtain ⟨u, v, ⟨_, e, _⟩ | ⟨l, _, _⟩⟩ := h
  · obtain ⟨u', v', ⟨_, e', _⟩ | ⟨l', _, _⟩⟩ := h'
    · rw [e, e'] at hp; simp at hp
    · exact .inr l'
  · exact .inl l
theorem right_v (n : Bool) (a b s : Int) (β : Bool) (w : World) (ha : U64 a) (hb1 : U64 b) (hβ : decide (RightD n a b s) = β) :
    Calls Try.prog 72 #[.agg #[.bool n, .int .u64 a, .int .u64 b, .int .i64 s]] w (Ret w (IsBool β)) := by
  subst hβ
  exact right_c n a b s w ha hb1
set_option maxRecDepth 100000 in
set_option maxHeartbeats 1600000 in
theorem signA_no (n : Bool) (a b s : Int) (w : World) (ha : U64 a) (hb1 : U64 b) (hr : ¬ RightD n a b s) :
    Calls Try.prog 68 #[.agg #[.bool n, .int .u64 a, .int .u64 b, .int .i64 s]] w (Ret w (IsInt 0)) := by
  have W := d1 w n a b s
  have HR := Lib.hid (decide_eq_false hr)
  clear hr
  go_enter Try.func68, Try.ntmps68
  go_wp2_with fail
  have V := W.drew
  refine wp_region_ord (S := fun W => HB w [(w.heap.size, 49, #[.bool n, .int .u64 a, .int .u64 b, .int .i64 s])] W) (by kernel_rfl) ?_
  refine ord_take (v := ?_) (i := 0) (fuel := 9) (by simp; rfl) (by kernel_rfl) (by kernel_rfl) (by kernel_rfl) (Or.inl ⟨by rfl, fun w' hSw => ?_⟩) V ?_
  rotate_left
  · dsimp only at hSw
    obtain ⟨ql, q0, q1, q2, q3⟩ := HB.dec (t := 49) (g := w.heap.size) (a := .bool n) (b := .int .u64 a) (c := .int .u64 b) (d := .int .i64 s) hSw (by simp)
    go_simp
    all_goals with_reducible rfl
  simp only [Act.put, List.setIfInBounds_toArray, List.set_cons_zero, List.set_cons_succ]
  refine ord_call (f := 72) (args := #[.agg #[.bool n, .int .u64 a, .int .u64 b, .int .i64 s]]) (w1 := (w.alloc (.cells #[.bool n, .int .u64 a, .int .u64 b, .int .i64 s] 49)).drew) (i := 1) (fuel := 8) (by simp; rfl) (by kernel_rfl) (by rfl) ?_ ?_
  · go_simp
    all_goals with_reducible rfl
  refine (right_v n a b s false _ ha hb1 HR.out).mono ?_
  rintro e w1 ⟨_, rfl, rfl, hb⟩
  have V1 := V.below hb
  clear hb V W
  refine ⟨_, rfl, V1, ?_⟩
  simp only [Act.put, List.setIfInBounds_toArray, List.set_cons_zero, List.set_cons_succ]
  refine ord_take (v := ?_) (i := 2) (fuel := 7) (by simp; rfl) (by kernel_rfl) (by kernel_rfl) (by kernel_rfl) (Or.inl ⟨by rfl, fun w' hSw => ?_⟩) V1 ?_
  rotate_left
  · go_simp
    all_goals with_reducible rfl
  simp only [Act.put, List.setIfInBounds_toArray, List.set_cons_zero, List.set_cons_succ]
  refine ord_take (v := ?_) (i := 3) (fuel := 6) (by simp; rfl) (by kernel_rfl) (by kernel_rfl) (by kernel_rfl) (Or.inl ⟨by rfl, fun w' hSw => ?_⟩) V1 ?_
  rotate_left
  · go_simp
    all_goals with_reducible rfl
  simp only [Act.put, List.setIfInBounds_toArray, List.set_cons_zero, List.set_cons_succ]
  refine ord_take (v := undef) (i := 4) (fuel := 5) (by simp; rfl) (by kernel_rfl) (by kernel_rfl) (by kernel_rfl) (Or.inr ⟨by rfl, rfl⟩) V1 ?_
  simp only [Act.put, List.setIfInBounds_toArray, List.set_cons_zero, List.set_cons_succ]
  refine ord_take (v := undef) (i := 5) (fuel := 4) (by simp; rfl) (by kernel_rfl) (by kernel_rfl) (by kernel_rfl) (Or.inr ⟨by rfl, rfl⟩) V1 ?_
  simp only [Act.put, List.setIfInBounds_toArray, List.set_cons_zero, List.set_cons_succ]
  refine ord_take (v := undef) (i := 6) (fuel := 3) (by simp; rfl) (by kernel_rfl) (by kernel_rfl) (by kernel_rfl) (Or.inr ⟨by rfl, rfl⟩) V1 ?_
  simp only [Act.put, List.setIfInBounds_toArray, List.set_cons_zero, List.set_cons_succ]
  refine ord_take (v := undef) (i := 7) (fuel := 2) (by simp; rfl) (by kernel_rfl) (by kernel_rfl) (by kernel_rfl) (Or.inr ⟨by rfl, rfl⟩) V1 ?_
  simp only [Act.put, List.setIfInBounds_toArray, List.set_cons_zero, List.set_cons_succ]
  refine ord_take (v := ?_) (i := 8) (fuel := 1) (by simp; rfl) (by kernel_rfl) (by kernel_rfl) (by kernel_rfl) (Or.inl ⟨by rfl, fun w' hSw => ?_⟩) V1 ?_
  rotate_left
  · go_simp
    all_goals with_reducible rfl
  simp only [Act.put, List.setIfInBounds_toArray, List.set_cons_zero, List.set_cons_succ]
  refine ord_take (v := ?_) (i := 9) (fuel := 0) (by simp; rfl) (by kernel_rfl) (by kernel_rfl) (by kernel_rfl) (Or.inl ⟨by rfl, fun w' hSw => ?_⟩) V1 ?_
  rotate_left
  · go_simp
    all_goals with_reducible rfl
  simp only [Act.put, List.setIfInBounds_toArray, List.set_cons_zero, List.set_cons_succ]
  refine ord_done (by kernel_rfl) ?_ _
  have HB1 := Lib.hid V1.1
  clear V1
  go_wp2
  go_ret
  exact ⟨_, rfl, rfl, HB1.out⟩
theorem sign_all (n : Bool) (a b s : Int) (w : World) (ha : U64 a) (hb1 : U64 b) :
    Calls Try.prog 68 #[.agg #[.bool n, .int .u64 a, .int .u64 b, .int .i64 s]] w (Ret w (IsInt (signV n a b s))) := by
  by_cases hr : RightD n a b s
  · rw [signV, if_pos hr]
    exact sign_d n a b s _ w (right_z ha hb1 hr) (zof_30 hr) hr.2.1 hr.2.2.1
  · rw [signV, if_neg hr]
    exact signA_no n a b s w ha hb1 hr
/-- -1, 0, 1: by their values; 0, where one is not right. -/
def cmpV (n : Bool) (a b s : Int) (n' : Bool) (a' b' s' : Int) : Int := if RightD n a b s ∧ RightD n' a' b' s' then cmpZ (zAt (zOf n (v2 a b)) s (max s s')) (zAt (zOf n' (v2 a' b')) s' (max s s')) else 0
end Go.Proofs.Ytakofbkbbmpfeaa

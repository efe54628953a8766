/- dec.Cmp, dec.Sign at any decimals. -/
import Derived.Test.YtlhceelkefgjhaaGreatDoorDecJ
import Derived.Test.YtlhceelkefgjhaaGreatDoorOrd
namespace Go.Proofs.YtlhceelkefgjhaaGreatDoor
open Go.RowKit
/-- A right decimal's number (the Scales stand beside it for the walks' sake). -/
def Gt (z _s _t : Int) : Prop := z.natAbs < 1000000000000000000000000000000
theorem gt_30 {z s t : Int} (h : Gt z s t) : z.natAbs < 1000000000000000000000000000000 := h
theorem up_dec {n : Bool} {a b z s t : Int} (h : DecIs n a b z) : upW a b s t = upN z s t := by
  unfold upW upN
  rw [h.2.2.2]
/-- What two numbers at one Scale come to, where one has no room. -/
theorem cmp_room {a b s a' b' s' t : Int} (hl : v2 a b < 1000000000000000000000000000000) (hl' : v2 a' b' < 1000000000000000000000000000000) (ht : (s < s' ∧ s' = t) ∨ (s' ≤ s ∧ s = t)) (hov : 340282366920938463463374607431768211456 ≤ upW a b s t ∨ 340282366920938463463374607431768211456 ≤ upW a' b' s' t) :
    Lib.compareInt s' s = cmpI (upW a b s t) (upW a' b' s' t) := by
  have own : ∀ x y u : Int, upW x y u u = v2 x y := fun x y u => by unfold upW; simp
  unfold Lib.compareInt cmpI
  rcases ht with ⟨h, rfl⟩ | ⟨h, rfl⟩
  · rw [own a' b' s'] at hov ⊢
    rw [if_neg (by omega), if_pos (by omega), if_neg (by omega), if_neg (by omega)]
  · rw [own a b s] at hov ⊢
    by_cases e : s' = s
    · subst e
      rw [own a' b' s'] at hov
      omega
    · rw [if_pos (by omega), if_neg (by omega), if_pos (by omega)]
theorem sz2_yes {M N : Nat} {x y x' y' : Int} {p p' : Bool} (h : Sz M x y p) (h' : Sz N x' y' p') (hp : (p && p') = true) : U64 x ∧ U64 y ∧ U64 x' ∧ U64 y' ∧ v2 x y = M ∧ v2 x' y' = N := by
  obtain ⟨u, v, ⟨_, _, e⟩ | ⟨_, e, _⟩⟩ := h
  · obtain ⟨u', v', ⟨_, _, e'⟩ | ⟨_, e', _⟩⟩ := h'
    · exact ⟨u, v, u', v', e, e'⟩
    · rw [e'] at hp; simp at hp
  · rw [e] at hp; simp at hp
theorem sz2_no {M N : Nat} {x y x' y' : Int} {p p' : Bool} (h : Sz M x y p) (h' : Sz N x' y' p') (hp : (p && p') = false) : 340282366920938463463374607431768211456 ≤ M ∨ 340282366920938463463374607431768211456 ≤ N := by
  obtain ⟨u, v, ⟨_, e, _⟩ | ⟨l, _, _⟩⟩ := h
  · obtain ⟨u', v', ⟨_, e', _⟩ | ⟨l', _, _⟩⟩ := h'
    · rw [e, e'] at hp; simp at hp
    · exact .inr l'
  · exact .inl l
set_option maxRecDepth 100000 in
set_option maxHeartbeats 1600000 in
theorem cmpSize_t (n : Bool) (a b s z : Int) (n' : Bool) (a' b' s' z' t : Int) (w : World) (h : DecIs n a b z) (h' : DecIs n' a' b' z') (hz : Gt z s t) (hz' : Gt z' s' t) (h0 : 0 ≤ s) (h0' : 0 ≤ s') (h9 : s ≤ 9) (h9' : s' ≤ 9) (ht : (s < s' ∧ s' = t) ∨ (s' ≤ s ∧ s = t)) :
    Calls Tryz.prog 53 #[.agg #[.bool n, .int .u64 a, .int .u64 b, .int .i64 s], .agg #[.bool n', .int .u64 a', .int .u64 b', .int .i64 s']] w (Ret w (IsInt (cmpI (upN z s t) (upN z' s' t)))) := by
  rw [← up_dec (s := s) (t := t) h, ← up_dec (s := s') (t := t) h']
  have ha := h.2.1
  have hb1 := h.2.2.1
  have ha' := h'.2.1
  have hb1' := h'.2.2.1
  have hl : v2 a b < 1000000000000000000000000000000 := by rw [h.2.2.2]; exact hz
  have hl' : v2 a' b' < 1000000000000000000000000000000 := by rw [h'.2.2.2]; exact hz'
  clear h h' hz hz'
  have ht9 : t ≤ 9 := by omega
  have hst : s ≤ t := by omega
  have hst' : s' ≤ t := by omega
  have CR := Lib.hid (cmp_room hl hl' ht)
  clear hl hl'
  obtain ⟨M, hM⟩ : ∃ M, upW a b s t = M := ⟨_, rfl⟩
  obtain ⟨N, hN⟩ : ∃ N, upW a' b' s' t = N := ⟨_, rfl⟩
  have HM := Lib.hid hM
  have HN := Lib.hid hN
  rw [hM, hN]
  clear hM hN
  have W : HB w [(w.heap.size + 1, 25, #[.bool n', .int .u64 a', .int .u64 b', .int .i64 s']), (w.heap.size, 25, #[.bool n, .int .u64 a, .int .u64 b, .int .i64 s])] ((w.alloc (.cells #[.bool n, .int .u64 a, .int .u64 b, .int .i64 s] 25)).alloc (.cells #[.bool n', .int .u64 a', .int .u64 b', .int .i64 s'] 25)) := by
    have h := ((HB.start (Below.refl _ w)).push #[.bool n, .int .u64 a, .int .u64 b, .int .i64 s] 25).push #[.bool n', .int .u64 a', .int .u64 b', .int .i64 s'] 25
    simpa using h
  rcases ht with ⟨hss, rfl⟩ | ⟨hss, rfl⟩
  · have hx9 := hss
    go_enter Tryz.func53, Tryz.ntmps53
    go_wp2_with fail
    rw [show max s s' = s' by omega]
    go_wp2_with fail
    refine (bothAt_all n a b s n' a' b' s' s' _ ha hb1 ha' hb1' h0 h0' hst hst' ht9).mono ?_
    rintro e w3 ⟨_, ⟨x, y, p, x', y', p', hx, hx', rfl⟩, rfl, hb⟩
    replace W := W.below hb
    clear hb
    rw [HM.out] at hx
    rw [HN.out] at hx'
    obtain ⟨β, hβ⟩ : ∃ β, (p && p') = β := ⟨_, rfl⟩
    rw [hβ]
    cases β
    · have hov := sz2_no hx hx' hβ
      have e := CR.out (by rw [HM.out, HN.out]; exact hov)
      rw [HM.out, HN.out] at e
      have EH := Lib.hid e
      clear e hov hx hx' hβ
      replace W := (W.push #[.int .u64 x, .int .u64 y] 23).push #[.int .u64 x', .int .u64 y'] 23
      simp only [World.size_alloc] at W
      obtain ⟨lq, q0, q1, q2, q3⟩ := HB.dec (t := 25) (g := w.heap.size + 1) (a := .bool n') (b := .int .u64 a') (c := .int .u64 b') (d := .int .i64 s') W (by simp)
      obtain ⟨lr, r0, r1, r2, r3⟩ := HB.dec (t := 25) (g := w.heap.size) (a := .bool n) (b := .int .u64 a) (c := .int .u64 b) (d := .int .i64 s) W (by simp)
      go_wp2_with fail
      refine (compare_c s' s _).mono ?_
      rintro e w4 ⟨rfl, rfl⟩
      have HB1 := Lib.hid W.1
      clear W
      go_wp2
      go_ret
      exact ⟨_, ret_at EH.out.symm, rfl, HB1.out⟩
    · obtain ⟨u, v, u', v', ex, ex'⟩ := sz2_yes hx hx' hβ
      have EX := Lib.hid ex
      have EX' := Lib.hid ex'
      clear ex ex' hx hx' hβ CR
      replace W := (W.push #[.int .u64 x, .int .u64 y] 23).push #[.int .u64 x', .int .u64 y'] 23
      simp only [World.size_alloc] at W
      go_wp2_with fail
      refine (cmp_c x y x' y' _ u v u' v').mono ?_
      rintro e w4 ⟨v1, hv, rfl, hb⟩
      replace W := W.below hb
      clear hb
      rw [EX.out, EX'.out] at hv
      obtain rfl : v1 = .int .i64 _ := hv
      have HB1 := Lib.hid W.1
      clear W
      go_wp2
      go_ret
      exact ⟨_, rfl, rfl, HB1.out⟩
  · have hx9 := hss
    go_enter Tryz.func53, Tryz.ntmps53
    go_wp2_with fail
    rw [show max s s' = s by omega]
    go_wp2_with fail
    refine (bothAt_all n a b s n' a' b' s' s _ ha hb1 ha' hb1' h0 h0' hst hst' ht9).mono ?_
    rintro e w3 ⟨_, ⟨x, y, p, x', y', p', hx, hx', rfl⟩, rfl, hb⟩
    replace W := W.below hb
    clear hb
    rw [HM.out] at hx
    rw [HN.out] at hx'
    obtain ⟨β, hβ⟩ : ∃ β, (p && p') = β := ⟨_, rfl⟩
    rw [hβ]
    cases β
    · have hov := sz2_no hx hx' hβ
      have e := CR.out (by rw [HM.out, HN.out]; exact hov)
      rw [HM.out, HN.out] at e
      have EH := Lib.hid e
      clear e hov hx hx' hβ
      replace W := (W.push #[.int .u64 x, .int .u64 y] 23).push #[.int .u64 x', .int .u64 y'] 23
      simp only [World.size_alloc] at W
      obtain ⟨lq, q0, q1, q2, q3⟩ := HB.dec (t := 25) (g := w.heap.size + 1) (a := .bool n') (b := .int .u64 a') (c := .int .u64 b') (d := .int .i64 s') W (by simp)
      obtain ⟨lr, r0, r1, r2, r3⟩ := HB.dec (t := 25) (g := w.heap.size) (a := .bool n) (b := .int .u64 a) (c := .int .u64 b) (d := .int .i64 s) W (by simp)
      go_wp2_with fail
      refine (compare_c s' s _).mono ?_
      rintro e w4 ⟨rfl, rfl⟩
      have HB1 := Lib.hid W.1
      clear W
      go_wp2
      go_ret
      exact ⟨_, ret_at EH.out.symm, rfl, HB1.out⟩
    · obtain ⟨u, v, u', v', ex, ex'⟩ := sz2_yes hx hx' hβ
      have EX := Lib.hid ex
      have EX' := Lib.hid ex'
      clear ex ex' hx hx' hβ CR
      replace W := (W.push #[.int .u64 x, .int .u64 y] 23).push #[.int .u64 x', .int .u64 y'] 23
      simp only [World.size_alloc] at W
      go_wp2_with fail
      refine (cmp_c x y x' y' _ u v u' v').mono ?_
      rintro e w4 ⟨v1, hv, rfl, hb⟩
      replace W := W.below hb
      clear hb
      rw [EX.out, EX'.out] at hv
      obtain rfl : v1 = .int .i64 _ := hv
      have HB1 := Lib.hid W.1
      clear W
      go_wp2
      go_ret
      exact ⟨_, rfl, rfl, HB1.out⟩
set_option maxRecDepth 100000 in
set_option maxHeartbeats 1600000 in
theorem cmpT_eq (n : Bool) (a b s z z' t : Int) (w : World) (h : DecIs n a b z) (h' : DecIs n a b z') (hz : Gt z s t) (hz' : Gt z' s t) (h0 : 0 ≤ s) (_h0' : 0 ≤ s) (h9 : s ≤ 9) (_h9' : s ≤ 9) (_ht : (s < s ∧ s = t) ∨ (s ≤ s ∧ s = t)) :
    Calls Tryz.prog 24 #[.agg #[.bool n, .int .u64 a, .int .u64 b, .int .i64 s], .agg #[.bool n, .int .u64 a, .int .u64 b, .int .i64 s]] w (Ret w (IsInt (cmpZ (zAt z s t) (zAt z' s t)))) := by
  have W : HB w [(w.heap.size + 1, 25, #[.bool n, .int .u64 a, .int .u64 b, .int .i64 s]), (w.heap.size, 25, #[.bool n, .int .u64 a, .int .u64 b, .int .i64 s])] ((w.alloc (.cells #[.bool n, .int .u64 a, .int .u64 b, .int .i64 s] 25)).alloc (.cells #[.bool n, .int .u64 a, .int .u64 b, .int .i64 s] 25)) := by
    have h := ((HB.start (Below.refl _ w)).push #[.bool n, .int .u64 a, .int .u64 b, .int .i64 s] 25).push #[.bool n, .int .u64 a, .int .u64 b, .int .i64 s] 25
    simpa using h
  have ez := dec_same h h'
  subst ez
  have e0 : cmpZ (zAt z s t) (zAt z s t) = 0 := by unfold cmpZ; rw [if_pos rfl]
  rw [e0]
  clear e0
  have hq := eqW2_yes (a := a) (b := b) (c := a) (d := b) ⟨rfl, rfl⟩
  have hH := Lib.hid h
  have h'H := Lib.hid h'
  have hzH := Lib.hid hz
  have hz'H := Lib.hid hz'
  clear h h' hz hz'
  go_enter Tryz.func24, Tryz.ntmps24
  go_wp2_with fail
  refine (right_d n a b s z _ hH.out (gt_30 hzH.out) h0 h9).mono ?_
  rintro e w1 ⟨_, rfl, rfl, hb⟩
  replace W := W.below hb
  clear hb
  obtain ⟨lq, q0, q1, q2, q3⟩ := HB.dec (t := 25) (g := w.heap.size + 1) (a := .bool n) (b := .int .u64 a) (c := .int .u64 b) (d := .int .i64 s) W (by simp)
  go_wp2_with fail
  refine (right_d n a b s z _ hH.out (gt_30 hzH.out) h0 h9).mono ?_
  rintro e w2 ⟨_, rfl, rfl, hb⟩
  replace W := W.below hb
  clear hb lq q0 q1 q2 q3
  obtain ⟨lp, p0, p1, p2, p3⟩ := HB.dec (t := 25) (g := w.heap.size) (a := .bool n) (b := .int .u64 a) (c := .int .u64 b) (d := .int .i64 s) W (by simp)
  obtain ⟨lq, q0, q1, q2, q3⟩ := HB.dec (t := 25) (g := w.heap.size + 1) (a := .bool n) (b := .int .u64 a) (c := .int .u64 b) (d := .int .i64 s) W (by simp)
  have HB1 := Lib.hid W.1
  clear W
  go_wp2
  go_ret
  exact ⟨_, rfl, rfl, HB1.out⟩
set_option maxRecDepth 100000 in
set_option maxHeartbeats 1600000 in
theorem cmpT_n (n : Bool) (n' : Bool) (a b s z a' b' s' z' t : Int) (w : World) (h : DecIs n a b z) (h' : DecIs n' a' b' z') (hz : Gt z s t) (hz' : Gt z' s' t) (h0 : 0 ≤ s) (h0' : 0 ≤ s') (h9 : s ≤ 9) (h9' : s' ≤ 9) (ht : (s < s' ∧ s' = t) ∨ (s' ≤ s ∧ s = t)) (hk : (n == n') = false) :
    Calls Tryz.prog 24 #[.agg #[.bool n, .int .u64 a, .int .u64 b, .int .i64 s], .agg #[.bool n', .int .u64 a', .int .u64 b', .int .i64 s']] w (Ret w (IsInt (cmpZ (zAt z s t) (zAt z' s' t)))) := by
  have W : HB w [(w.heap.size + 1, 25, #[.bool n', .int .u64 a', .int .u64 b', .int .i64 s']), (w.heap.size, 25, #[.bool n, .int .u64 a, .int .u64 b, .int .i64 s])] ((w.alloc (.cells #[.bool n, .int .u64 a, .int .u64 b, .int .i64 s] 25)).alloc (.cells #[.bool n', .int .u64 a', .int .u64 b', .int .i64 s'] 25)) := by
    have h := ((HB.start (Below.refl _ w)).push #[.bool n, .int .u64 a, .int .u64 b, .int .i64 s] 25).push #[.bool n', .int .u64 a', .int .u64 b', .int .i64 s'] 25
    simpa using h
  have hH := Lib.hid h
  have h'H := Lib.hid h'
  have hzH := Lib.hid hz
  have hz'H := Lib.hid hz'
  clear h h' hz hz'
  by_cases hsg : z.sign = z'.sign
  · have HE := Lib.hid (cmp_same z s z' s' t hsg)
    have g : (z.sign != z'.sign) = false := by simp [hsg]
    have htH := Lib.hid ht
    clear ht hsg
    go_enter Tryz.func24, Tryz.ntmps24
    go_wp2_with fail
    refine (right_d n a b s z _ hH.out (gt_30 hzH.out) h0 h9).mono ?_
    rintro e w1 ⟨_, rfl, rfl, hb⟩
    replace W := W.below hb
    clear hb
    obtain ⟨lq, q0, q1, q2, q3⟩ := HB.dec (t := 25) (g := w.heap.size + 1) (a := .bool n') (b := .int .u64 a') (c := .int .u64 b') (d := .int .i64 s') W (by simp)
    go_wp2_with fail
    refine (right_d n' a' b' s' z' _ h'H.out (gt_30 hz'H.out) h0' h9').mono ?_
    rintro e w2 ⟨_, rfl, rfl, hb⟩
    replace W := W.below hb
    clear hb lq q0 q1 q2 q3
    obtain ⟨lp, p0, p1, p2, p3⟩ := HB.dec (t := 25) (g := w.heap.size) (a := .bool n) (b := .int .u64 a) (c := .int .u64 b) (d := .int .i64 s) W (by simp)
    obtain ⟨lq, q0, q1, q2, q3⟩ := HB.dec (t := 25) (g := w.heap.size + 1) (a := .bool n') (b := .int .u64 a') (c := .int .u64 b') (d := .int .i64 s') W (by simp)
    go_wp2_with fail
    refine (sign_d n a b s z _ hH.out (gt_30 hzH.out) h0 h9).mono ?_
    rintro e w3 ⟨_, rfl, rfl, hb⟩
    replace W := W.below hb
    clear hb lq q0 q1 q2 q3 lp p0 p1 p2 p3
    obtain ⟨lq, q0, q1, q2, q3⟩ := HB.dec (t := 25) (g := w.heap.size + 1) (a := .bool n') (b := .int .u64 a') (c := .int .u64 b') (d := .int .i64 s') W (by simp)
    go_wp2_with fail
    refine (sign_d n' a' b' s' z' _ h'H.out (gt_30 hz'H.out) h0' h9').mono ?_
    rintro e w4 ⟨_, rfl, rfl, hb⟩
    replace W := W.below hb
    clear hb lq q0 q1 q2 q3
    obtain ⟨lp, p0, p1, p2, p3⟩ := HB.dec (t := 25) (g := w.heap.size) (a := .bool n) (b := .int .u64 a) (c := .int .u64 b) (d := .int .i64 s) W (by simp)
    obtain ⟨lq, q0, q1, q2, q3⟩ := HB.dec (t := 25) (g := w.heap.size + 1) (a := .bool n') (b := .int .u64 a') (c := .int .u64 b') (d := .int .i64 s') W (by simp)
    go_wp2_with fail
    refine (cmpSize_t n a b s z n' a' b' s' z' t _ hH.out h'H.out hzH.out hz'H.out h0 h0' h9 h9' htH.out).mono ?_
    rintro e w5 ⟨_, rfl, rfl, hb⟩
    replace W := W.below hb
    clear hb lq q0 q1 q2 q3 lp p0 p1 p2 p3
    have HB1 := Lib.hid W.1
    clear W
    have hw := sign_wrap z (upN z s t) (upN z' s' t)
    go_wp2
    go_ret
    exact ⟨_, ret_at HE.out.symm, rfl, HB1.out⟩
  · have HE := Lib.hid (cmp_diff z s z' s' t hsg)
    have g : (z.sign != z'.sign) = true := by simp [hsg]
    have htH := Lib.hid ht
    clear ht hsg
    go_enter Tryz.func24, Tryz.ntmps24
    go_wp2_with fail
    refine (right_d n a b s z _ hH.out (gt_30 hzH.out) h0 h9).mono ?_
    rintro e w1 ⟨_, rfl, rfl, hb⟩
    replace W := W.below hb
    clear hb
    obtain ⟨lq, q0, q1, q2, q3⟩ := HB.dec (t := 25) (g := w.heap.size + 1) (a := .bool n') (b := .int .u64 a') (c := .int .u64 b') (d := .int .i64 s') W (by simp)
    go_wp2_with fail
    refine (right_d n' a' b' s' z' _ h'H.out (gt_30 hz'H.out) h0' h9').mono ?_
    rintro e w2 ⟨_, rfl, rfl, hb⟩
    replace W := W.below hb
    clear hb lq q0 q1 q2 q3
    obtain ⟨lp, p0, p1, p2, p3⟩ := HB.dec (t := 25) (g := w.heap.size) (a := .bool n) (b := .int .u64 a) (c := .int .u64 b) (d := .int .i64 s) W (by simp)
    obtain ⟨lq, q0, q1, q2, q3⟩ := HB.dec (t := 25) (g := w.heap.size + 1) (a := .bool n') (b := .int .u64 a') (c := .int .u64 b') (d := .int .i64 s') W (by simp)
    go_wp2_with fail
    refine (sign_d n a b s z _ hH.out (gt_30 hzH.out) h0 h9).mono ?_
    rintro e w3 ⟨_, rfl, rfl, hb⟩
    replace W := W.below hb
    clear hb lq q0 q1 q2 q3 lp p0 p1 p2 p3
    obtain ⟨lq, q0, q1, q2, q3⟩ := HB.dec (t := 25) (g := w.heap.size + 1) (a := .bool n') (b := .int .u64 a') (c := .int .u64 b') (d := .int .i64 s') W (by simp)
    go_wp2_with fail
    refine (sign_d n' a' b' s' z' _ h'H.out (gt_30 hz'H.out) h0' h9').mono ?_
    rintro e w4 ⟨_, rfl, rfl, hb⟩
    replace W := W.below hb
    clear hb lq q0 q1 q2 q3
    obtain ⟨lp, p0, p1, p2, p3⟩ := HB.dec (t := 25) (g := w.heap.size) (a := .bool n) (b := .int .u64 a) (c := .int .u64 b) (d := .int .i64 s) W (by simp)
    obtain ⟨lq, q0, q1, q2, q3⟩ := HB.dec (t := 25) (g := w.heap.size + 1) (a := .bool n') (b := .int .u64 a') (c := .int .u64 b') (d := .int .i64 s') W (by simp)
    go_wp2_with fail
    refine (compare_c z.sign z'.sign _).mono ?_
    rintro e w5 ⟨rfl, rfl⟩
    have HB1 := Lib.hid W.1
    clear W
    go_wp2
    go_ret
    exact ⟨_, ret_at HE.out.symm, rfl, HB1.out⟩
set_option maxRecDepth 100000 in
set_option maxHeartbeats 1600000 in
theorem cmpT_c (n : Bool) (a b s z a' b' s' z' t : Int) (w : World) (h : DecIs n a b z) (h' : DecIs n a' b' z') (hz : Gt z s t) (hz' : Gt z' s' t) (h0 : 0 ≤ s) (h0' : 0 ≤ s') (h9 : s ≤ 9) (h9' : s' ≤ 9) (ht : (s < s' ∧ s' = t) ∨ (s' ≤ s ∧ s = t)) (hk : eqW2 a b a' b' = false) :
    Calls Tryz.prog 24 #[.agg #[.bool n, .int .u64 a, .int .u64 b, .int .i64 s], .agg #[.bool n, .int .u64 a', .int .u64 b', .int .i64 s']] w (Ret w (IsInt (cmpZ (zAt z s t) (zAt z' s' t)))) := by
  have W : HB w [(w.heap.size + 1, 25, #[.bool n, .int .u64 a', .int .u64 b', .int .i64 s']), (w.heap.size, 25, #[.bool n, .int .u64 a, .int .u64 b, .int .i64 s])] ((w.alloc (.cells #[.bool n, .int .u64 a, .int .u64 b, .int .i64 s] 25)).alloc (.cells #[.bool n, .int .u64 a', .int .u64 b', .int .i64 s'] 25)) := by
    have h := ((HB.start (Below.refl _ w)).push #[.bool n, .int .u64 a, .int .u64 b, .int .i64 s] 25).push #[.bool n, .int .u64 a', .int .u64 b', .int .i64 s'] 25
    simpa using h
  have hH := Lib.hid h
  have h'H := Lib.hid h'
  have hzH := Lib.hid hz
  have hz'H := Lib.hid hz'
  clear h h' hz hz'
  by_cases hsg : z.sign = z'.sign
  · have HE := Lib.hid (cmp_same z s z' s' t hsg)
    have g : (z.sign != z'.sign) = false := by simp [hsg]
    have htH := Lib.hid ht
    clear ht hsg
    go_enter Tryz.func24, Tryz.ntmps24
    go_wp2_with fail
    refine (right_d n a b s z _ hH.out (gt_30 hzH.out) h0 h9).mono ?_
    rintro e w1 ⟨_, rfl, rfl, hb⟩
    replace W := W.below hb
    clear hb
    obtain ⟨lq, q0, q1, q2, q3⟩ := HB.dec (t := 25) (g := w.heap.size + 1) (a := .bool n) (b := .int .u64 a') (c := .int .u64 b') (d := .int .i64 s') W (by simp)
    go_wp2_with fail
    refine (right_d n a' b' s' z' _ h'H.out (gt_30 hz'H.out) h0' h9').mono ?_
    rintro e w2 ⟨_, rfl, rfl, hb⟩
    replace W := W.below hb
    clear hb lq q0 q1 q2 q3
    obtain ⟨lp, p0, p1, p2, p3⟩ := HB.dec (t := 25) (g := w.heap.size) (a := .bool n) (b := .int .u64 a) (c := .int .u64 b) (d := .int .i64 s) W (by simp)
    obtain ⟨lq, q0, q1, q2, q3⟩ := HB.dec (t := 25) (g := w.heap.size + 1) (a := .bool n) (b := .int .u64 a') (c := .int .u64 b') (d := .int .i64 s') W (by simp)
    go_wp2_with fail
    refine (sign_d n a b s z _ hH.out (gt_30 hzH.out) h0 h9).mono ?_
    rintro e w3 ⟨_, rfl, rfl, hb⟩
    replace W := W.below hb
    clear hb lq q0 q1 q2 q3 lp p0 p1 p2 p3
    obtain ⟨lq, q0, q1, q2, q3⟩ := HB.dec (t := 25) (g := w.heap.size + 1) (a := .bool n) (b := .int .u64 a') (c := .int .u64 b') (d := .int .i64 s') W (by simp)
    go_wp2_with fail
    refine (sign_d n a' b' s' z' _ h'H.out (gt_30 hz'H.out) h0' h9').mono ?_
    rintro e w4 ⟨_, rfl, rfl, hb⟩
    replace W := W.below hb
    clear hb lq q0 q1 q2 q3
    obtain ⟨lp, p0, p1, p2, p3⟩ := HB.dec (t := 25) (g := w.heap.size) (a := .bool n) (b := .int .u64 a) (c := .int .u64 b) (d := .int .i64 s) W (by simp)
    obtain ⟨lq, q0, q1, q2, q3⟩ := HB.dec (t := 25) (g := w.heap.size + 1) (a := .bool n) (b := .int .u64 a') (c := .int .u64 b') (d := .int .i64 s') W (by simp)
    go_wp2_with fail
    refine (cmpSize_t n a b s z n a' b' s' z' t _ hH.out h'H.out hzH.out hz'H.out h0 h0' h9 h9' htH.out).mono ?_
    rintro e w5 ⟨_, rfl, rfl, hb⟩
    replace W := W.below hb
    clear hb lq q0 q1 q2 q3 lp p0 p1 p2 p3
    have HB1 := Lib.hid W.1
    clear W
    have hw := sign_wrap z (upN z s t) (upN z' s' t)
    go_wp2
    go_ret
    exact ⟨_, ret_at HE.out.symm, rfl, HB1.out⟩
  · have HE := Lib.hid (cmp_diff z s z' s' t hsg)
    have g : (z.sign != z'.sign) = true := by simp [hsg]
    have htH := Lib.hid ht
    clear ht hsg
    go_enter Tryz.func24, Tryz.ntmps24
    go_wp2_with fail
    refine (right_d n a b s z _ hH.out (gt_30 hzH.out) h0 h9).mono ?_
    rintro e w1 ⟨_, rfl, rfl, hb⟩
    replace W := W.below hb
    clear hb
    obtain ⟨lq, q0, q1, q2, q3⟩ := HB.dec (t := 25) (g := w.heap.size + 1) (a := .bool n) (b := .int .u64 a') (c := .int .u64 b') (d := .int .i64 s') W (by simp)
    go_wp2_with fail
    refine (right_d n a' b' s' z' _ h'H.out (gt_30 hz'H.out) h0' h9').mono ?_
    rintro e w2 ⟨_, rfl, rfl, hb⟩
    replace W := W.below hb
    clear hb lq q0 q1 q2 q3
    obtain ⟨lp, p0, p1, p2, p3⟩ := HB.dec (t := 25) (g := w.heap.size) (a := .bool n) (b := .int .u64 a) (c := .int .u64 b) (d := .int .i64 s) W (by simp)
    obtain ⟨lq, q0, q1, q2, q3⟩ := HB.dec (t := 25) (g := w.heap.size + 1) (a := .bool n) (b := .int .u64 a') (c := .int .u64 b') (d := .int .i64 s') W (by simp)
    go_wp2_with fail
    refine (sign_d n a b s z _ hH.out (gt_30 hzH.out) h0 h9).mono ?_
    rintro e w3 ⟨_, rfl, rfl, hb⟩
    replace W := W.below hb
    clear hb lq q0 q1 q2 q3 lp p0 p1 p2 p3
    obtain ⟨lq, q0, q1, q2, q3⟩ := HB.dec (t := 25) (g := w.heap.size + 1) (a := .bool n) (b := .int .u64 a') (c := .int .u64 b') (d := .int .i64 s') W (by simp)
    go_wp2_with fail
    refine (sign_d n a' b' s' z' _ h'H.out (gt_30 hz'H.out) h0' h9').mono ?_
    rintro e w4 ⟨_, rfl, rfl, hb⟩
    replace W := W.below hb
    clear hb lq q0 q1 q2 q3
    obtain ⟨lp, p0, p1, p2, p3⟩ := HB.dec (t := 25) (g := w.heap.size) (a := .bool n) (b := .int .u64 a) (c := .int .u64 b) (d := .int .i64 s) W (by simp)
    obtain ⟨lq, q0, q1, q2, q3⟩ := HB.dec (t := 25) (g := w.heap.size + 1) (a := .bool n) (b := .int .u64 a') (c := .int .u64 b') (d := .int .i64 s') W (by simp)
    go_wp2_with fail
    refine (compare_c z.sign z'.sign _).mono ?_
    rintro e w5 ⟨rfl, rfl⟩
    have HB1 := Lib.hid W.1
    clear W
    go_wp2
    go_ret
    exact ⟨_, ret_at HE.out.symm, rfl, HB1.out⟩
set_option maxRecDepth 100000 in
set_option maxHeartbeats 1600000 in
theorem cmpT_s (n : Bool) (a b s z s' z' t : Int) (w : World) (h : DecIs n a b z) (h' : DecIs n a b z') (hz : Gt z s t) (hz' : Gt z' s' t) (h0 : 0 ≤ s) (h0' : 0 ≤ s') (h9 : s ≤ 9) (h9' : s' ≤ 9) (ht : (s < s' ∧ s' = t) ∨ (s' ≤ s ∧ s = t)) (hk : (s == s') = false) :
    Calls Tryz.prog 24 #[.agg #[.bool n, .int .u64 a, .int .u64 b, .int .i64 s], .agg #[.bool n, .int .u64 a, .int .u64 b, .int .i64 s']] w (Ret w (IsInt (cmpZ (zAt z s t) (zAt z' s' t)))) := by
  have W : HB w [(w.heap.size + 1, 25, #[.bool n, .int .u64 a, .int .u64 b, .int .i64 s']), (w.heap.size, 25, #[.bool n, .int .u64 a, .int .u64 b, .int .i64 s])] ((w.alloc (.cells #[.bool n, .int .u64 a, .int .u64 b, .int .i64 s] 25)).alloc (.cells #[.bool n, .int .u64 a, .int .u64 b, .int .i64 s'] 25)) := by
    have h := ((HB.start (Below.refl _ w)).push #[.bool n, .int .u64 a, .int .u64 b, .int .i64 s] 25).push #[.bool n, .int .u64 a, .int .u64 b, .int .i64 s'] 25
    simpa using h
  have hq := eqW2_yes (a := a) (b := b) (c := a) (d := b) ⟨rfl, rfl⟩
  have hH := Lib.hid h
  have h'H := Lib.hid h'
  have hzH := Lib.hid hz
  have hz'H := Lib.hid hz'
  clear h h' hz hz'
  by_cases hsg : z.sign = z'.sign
  · have HE := Lib.hid (cmp_same z s z' s' t hsg)
    have g : (z.sign != z'.sign) = false := by simp [hsg]
    have htH := Lib.hid ht
    clear ht hsg
    go_enter Tryz.func24, Tryz.ntmps24
    go_wp2_with fail
    refine (right_d n a b s z _ hH.out (gt_30 hzH.out) h0 h9).mono ?_
    rintro e w1 ⟨_, rfl, rfl, hb⟩
    replace W := W.below hb
    clear hb
    obtain ⟨lq, q0, q1, q2, q3⟩ := HB.dec (t := 25) (g := w.heap.size + 1) (a := .bool n) (b := .int .u64 a) (c := .int .u64 b) (d := .int .i64 s') W (by simp)
    go_wp2_with fail
    refine (right_d n a b s' z' _ h'H.out (gt_30 hz'H.out) h0' h9').mono ?_
    rintro e w2 ⟨_, rfl, rfl, hb⟩
    replace W := W.below hb
    clear hb lq q0 q1 q2 q3
    obtain ⟨lp, p0, p1, p2, p3⟩ := HB.dec (t := 25) (g := w.heap.size) (a := .bool n) (b := .int .u64 a) (c := .int .u64 b) (d := .int .i64 s) W (by simp)
    obtain ⟨lq, q0, q1, q2, q3⟩ := HB.dec (t := 25) (g := w.heap.size + 1) (a := .bool n) (b := .int .u64 a) (c := .int .u64 b) (d := .int .i64 s') W (by simp)
    go_wp2_with fail
    refine (sign_d n a b s z _ hH.out (gt_30 hzH.out) h0 h9).mono ?_
    rintro e w3 ⟨_, rfl, rfl, hb⟩
    replace W := W.below hb
    clear hb lq q0 q1 q2 q3 lp p0 p1 p2 p3
    obtain ⟨lq, q0, q1, q2, q3⟩ := HB.dec (t := 25) (g := w.heap.size + 1) (a := .bool n) (b := .int .u64 a) (c := .int .u64 b) (d := .int .i64 s') W (by simp)
    go_wp2_with fail
    refine (sign_d n a b s' z' _ h'H.out (gt_30 hz'H.out) h0' h9').mono ?_
    rintro e w4 ⟨_, rfl, rfl, hb⟩
    replace W := W.below hb
    clear hb lq q0 q1 q2 q3
    obtain ⟨lp, p0, p1, p2, p3⟩ := HB.dec (t := 25) (g := w.heap.size) (a := .bool n) (b := .int .u64 a) (c := .int .u64 b) (d := .int .i64 s) W (by simp)
    obtain ⟨lq, q0, q1, q2, q3⟩ := HB.dec (t := 25) (g := w.heap.size + 1) (a := .bool n) (b := .int .u64 a) (c := .int .u64 b) (d := .int .i64 s') W (by simp)
    go_wp2_with fail
    refine (cmpSize_t n a b s z n a b s' z' t _ hH.out h'H.out hzH.out hz'H.out h0 h0' h9 h9' htH.out).mono ?_
    rintro e w5 ⟨_, rfl, rfl, hb⟩
    replace W := W.below hb
    clear hb lq q0 q1 q2 q3 lp p0 p1 p2 p3
    have HB1 := Lib.hid W.1
    clear W
    have hw := sign_wrap z (upN z s t) (upN z' s' t)
    go_wp2
    go_ret
    exact ⟨_, ret_at HE.out.symm, rfl, HB1.out⟩
  · have HE := Lib.hid (cmp_diff z s z' s' t hsg)
    have g : (z.sign != z'.sign) = true := by simp [hsg]
    have htH := Lib.hid ht
    clear ht hsg
    go_enter Tryz.func24, Tryz.ntmps24
    go_wp2_with fail
    refine (right_d n a b s z _ hH.out (gt_30 hzH.out) h0 h9).mono ?_
    rintro e w1 ⟨_, rfl, rfl, hb⟩
    replace W := W.below hb
    clear hb
    obtain ⟨lq, q0, q1, q2, q3⟩ := HB.dec (t := 25) (g := w.heap.size + 1) (a := .bool n) (b := .int .u64 a) (c := .int .u64 b) (d := .int .i64 s') W (by simp)
    go_wp2_with fail
    refine (right_d n a b s' z' _ h'H.out (gt_30 hz'H.out) h0' h9').mono ?_
    rintro e w2 ⟨_, rfl, rfl, hb⟩
    replace W := W.below hb
    clear hb lq q0 q1 q2 q3
    obtain ⟨lp, p0, p1, p2, p3⟩ := HB.dec (t := 25) (g := w.heap.size) (a := .bool n) (b := .int .u64 a) (c := .int .u64 b) (d := .int .i64 s) W (by simp)
    obtain ⟨lq, q0, q1, q2, q3⟩ := HB.dec (t := 25) (g := w.heap.size + 1) (a := .bool n) (b := .int .u64 a) (c := .int .u64 b) (d := .int .i64 s') W (by simp)
    go_wp2_with fail
    refine (sign_d n a b s z _ hH.out (gt_30 hzH.out) h0 h9).mono ?_
    rintro e w3 ⟨_, rfl, rfl, hb⟩
    replace W := W.below hb
    clear hb lq q0 q1 q2 q3 lp p0 p1 p2 p3
    obtain ⟨lq, q0, q1, q2, q3⟩ := HB.dec (t := 25) (g := w.heap.size + 1) (a := .bool n) (b := .int .u64 a) (c := .int .u64 b) (d := .int .i64 s') W (by simp)
    go_wp2_with fail
    refine (sign_d n a b s' z' _ h'H.out (gt_30 hz'H.out) h0' h9').mono ?_
    rintro e w4 ⟨_, rfl, rfl, hb⟩
    replace W := W.below hb
    clear hb lq q0 q1 q2 q3
    obtain ⟨lp, p0, p1, p2, p3⟩ := HB.dec (t := 25) (g := w.heap.size) (a := .bool n) (b := .int .u64 a) (c := .int .u64 b) (d := .int .i64 s) W (by simp)
    obtain ⟨lq, q0, q1, q2, q3⟩ := HB.dec (t := 25) (g := w.heap.size + 1) (a := .bool n) (b := .int .u64 a) (c := .int .u64 b) (d := .int .i64 s') W (by simp)
    go_wp2_with fail
    refine (compare_c z.sign z'.sign _).mono ?_
    rintro e w5 ⟨rfl, rfl⟩
    have HB1 := Lib.hid W.1
    clear W
    go_wp2
    go_ret
    exact ⟨_, ret_at HE.out.symm, rfl, HB1.out⟩
theorem cmp_t (n : Bool) (a b s z : Int) (n' : Bool) (a' b' s' z' t : Int) (w : World) (h : DecIs n a b z) (h' : DecIs n' a' b' z') (hz : Gt z s t) (hz' : Gt z' s' t) (h0 : 0 ≤ s) (h0' : 0 ≤ s') (h9 : s ≤ 9) (h9' : s' ≤ 9) (ht : (s < s' ∧ s' = t) ∨ (s' ≤ s ∧ s = t)) :
    Calls Tryz.prog 24 #[.agg #[.bool n, .int .u64 a, .int .u64 b, .int .i64 s], .agg #[.bool n', .int .u64 a', .int .u64 b', .int .i64 s']] w (Ret w (IsInt (cmpZ (zAt z s t) (zAt z' s' t)))) := by
  by_cases hn : n = n'
  · subst hn
    by_cases hc : a = a' ∧ b = b'
    · obtain ⟨rfl, rfl⟩ := hc
      by_cases hs : s = s'
      · subst hs
        exact cmpT_eq n a b s z z' t w h h' hz hz' h0 h0' h9 h9' ht
      · exact cmpT_s n a b s z s' z' t w h h' hz hz' h0 h0' h9 h9' ht (by simp [hs])
    · exact cmpT_c n a b s z a' b' s' z' t w h h' hz hz' h0 h0' h9 h9' ht (eqW2_no hc)
  · exact cmpT_n n n' a b s z a' b' s' z' t w h h' hz hz' h0 h0' h9 h9' ht (by cases n <;> cases n' <;> simp_all)

theorem right_v (n : Bool) (a b s : Int) (β : Bool) (w : World) (ha : U64 a) (hb1 : U64 b) (hβ : decide (RightD n a b s) = β) :
    Calls Tryz.prog 18 #[.agg #[.bool n, .int .u64 a, .int .u64 b, .int .i64 s]] w (Ret w (IsBool β)) := by
  subst hβ
  exact right_c n a b s w ha hb1
set_option maxRecDepth 100000 in
set_option maxHeartbeats 1600000 in
theorem signA_no (n : Bool) (a b s : Int) (w : World) (ha : U64 a) (hb1 : U64 b) (hr : ¬ RightD n a b s) :
    Calls Tryz.prog 22 #[.agg #[.bool n, .int .u64 a, .int .u64 b, .int .i64 s]] w (Ret w (IsInt 0)) := by
  have W := d1 w n a b s
  have HR := Lib.hid (decide_eq_false hr)
  clear hr
  go_enter Tryz.func22, Tryz.ntmps22
  go_wp2_with fail
  have V := W.drew
  refine wp_region_ord (S := fun W => HB w [(w.heap.size, 25, #[.bool n, .int .u64 a, .int .u64 b, .int .i64 s])] W) (by kernel_rfl) ?_
  refine ord_take (v := ?_) (i := 0) (fuel := 9) (by simp; rfl) (by kernel_rfl) (by kernel_rfl) (by kernel_rfl) (Or.inl ⟨by rfl, fun w' hSw => ?_⟩) V ?_
  rotate_left
  · dsimp only at hSw
    obtain ⟨ql, q0, q1, q2, q3⟩ := HB.dec (t := 25) (g := w.heap.size) (a := .bool n) (b := .int .u64 a) (c := .int .u64 b) (d := .int .i64 s) hSw (by simp)
    go_simp
    all_goals with_reducible rfl
  simp only [Act.put, List.setIfInBounds_toArray, List.set_cons_zero, List.set_cons_succ]
  refine ord_call (f := 18) (args := #[.agg #[.bool n, .int .u64 a, .int .u64 b, .int .i64 s]]) (w1 := (w.alloc (.cells #[.bool n, .int .u64 a, .int .u64 b, .int .i64 s] 25)).drew) (i := 1) (fuel := 8) (by simp; rfl) (by kernel_rfl) (by rfl) ?_ ?_
  · go_simp
    all_goals with_reducible rfl
  refine (right_v n a b s false _ ha hb1 HR.out).mono ?_
  rintro e w1 ⟨_, rfl, rfl, hb⟩
  have V1 := V.below hb
  clear hb V W
  refine ⟨_, rfl, V1, ?_⟩
  simp only [Act.put, List.setIfInBounds_toArray, List.set_cons_zero, List.set_cons_succ]
  refine ord_take (v := ?_) (i := 2) (fuel := 7) (by simp; rfl) (by kernel_rfl) (by kernel_rfl) (by kernel_rfl) (Or.inl ⟨by rfl, fun w' hSw => ?_⟩) V1 ?_
  rotate_left
  · go_simp
    all_goals with_reducible rfl
  simp only [Act.put, List.setIfInBounds_toArray, List.set_cons_zero, List.set_cons_succ]
  refine ord_take (v := ?_) (i := 3) (fuel := 6) (by simp; rfl) (by kernel_rfl) (by kernel_rfl) (by kernel_rfl) (Or.inl ⟨by rfl, fun w' hSw => ?_⟩) V1 ?_
  rotate_left
  · go_simp
    all_goals with_reducible rfl
  simp only [Act.put, List.setIfInBounds_toArray, List.set_cons_zero, List.set_cons_succ]
  refine ord_take (v := undef) (i := 4) (fuel := 5) (by simp; rfl) (by kernel_rfl) (by kernel_rfl) (by kernel_rfl) (Or.inr ⟨by rfl, rfl⟩) V1 ?_
  simp only [Act.put, List.setIfInBounds_toArray, List.set_cons_zero, List.set_cons_succ]
  refine ord_take (v := undef) (i := 5) (fuel := 4) (by simp; rfl) (by kernel_rfl) (by kernel_rfl) (by kernel_rfl) (Or.inr ⟨by rfl, rfl⟩) V1 ?_
  simp only [Act.put, List.setIfInBounds_toArray, List.set_cons_zero, List.set_cons_succ]
  refine ord_take (v := undef) (i := 6) (fuel := 3) (by simp; rfl) (by kernel_rfl) (by kernel_rfl) (by kernel_rfl) (Or.inr ⟨by rfl, rfl⟩) V1 ?_
  simp only [Act.put, List.setIfInBounds_toArray, List.set_cons_zero, List.set_cons_succ]
  refine ord_take (v := undef) (i := 7) (fuel := 2) (by simp; rfl) (by kernel_rfl) (by kernel_rfl) (by kernel_rfl) (Or.inr ⟨by rfl, rfl⟩) V1 ?_
  simp only [Act.put, List.setIfInBounds_toArray, List.set_cons_zero, List.set_cons_succ]
  refine ord_take (v := ?_) (i := 8) (fuel := 1) (by simp; rfl) (by kernel_rfl) (by kernel_rfl) (by kernel_rfl) (Or.inl ⟨by rfl, fun w' hSw => ?_⟩) V1 ?_
  rotate_left
  · go_simp
    all_goals with_reducible rfl
  simp only [Act.put, List.setIfInBounds_toArray, List.set_cons_zero, List.set_cons_succ]
  refine ord_take (v := ?_) (i := 9) (fuel := 0) (by simp; rfl) (by kernel_rfl) (by kernel_rfl) (by kernel_rfl) (Or.inl ⟨by rfl, fun w' hSw => ?_⟩) V1 ?_
  rotate_left
  · go_simp
    all_goals with_reducible rfl
  simp only [Act.put, List.setIfInBounds_toArray, List.set_cons_zero, List.set_cons_succ]
  refine ord_done (by kernel_rfl) ?_ _
  have HB1 := Lib.hid V1.1
  clear V1
  go_wp2
  go_ret
  exact ⟨_, rfl, rfl, HB1.out⟩
set_option maxRecDepth 100000 in
set_option maxHeartbeats 1600000 in
theorem cmpA_no1 (n : Bool) (a b s : Int) (n' : Bool) (a' b' s' : Int) (w : World) (ha : U64 a) (hb1 : U64 b) (hr : ¬ RightD n a b s) :
    Calls Tryz.prog 24 #[.agg #[.bool n, .int .u64 a, .int .u64 b, .int .i64 s], .agg #[.bool n', .int .u64 a', .int .u64 b', .int .i64 s']] w (Ret w (IsInt 0)) := by
  have W : HB w [(w.heap.size + 1, 25, #[.bool n', .int .u64 a', .int .u64 b', .int .i64 s']), (w.heap.size, 25, #[.bool n, .int .u64 a, .int .u64 b, .int .i64 s])] ((w.alloc (.cells #[.bool n, .int .u64 a, .int .u64 b, .int .i64 s] 25)).alloc (.cells #[.bool n', .int .u64 a', .int .u64 b', .int .i64 s'] 25)) := by
    have h := ((HB.start (Below.refl _ w)).push #[.bool n, .int .u64 a, .int .u64 b, .int .i64 s] 25).push #[.bool n', .int .u64 a', .int .u64 b', .int .i64 s'] 25
    simpa using h
  have HR := Lib.hid (decide_eq_false hr)
  clear hr
  go_enter Tryz.func24, Tryz.ntmps24
  go_wp2_with fail
  refine (right_v n a b s false _ ha hb1 HR.out).mono ?_
  rintro e w1 ⟨_, rfl, rfl, hb⟩
  replace W := W.below hb
  clear hb
  have HB1 := Lib.hid W.1
  clear W
  go_wp2
  go_ret
  exact ⟨_, rfl, rfl, HB1.out⟩
set_option maxRecDepth 100000 in
set_option maxHeartbeats 1600000 in
theorem cmpA_no2 (n : Bool) (a b s : Int) (n' : Bool) (a' b' s' : Int) (w : World) (ha : U64 a) (hb1 : U64 b) (ha' : U64 a') (hb1' : U64 b') (hr : RightD n a b s) (hr' : ¬ RightD n' a' b' s') :
    Calls Tryz.prog 24 #[.agg #[.bool n, .int .u64 a, .int .u64 b, .int .i64 s], .agg #[.bool n', .int .u64 a', .int .u64 b', .int .i64 s']] w (Ret w (IsInt 0)) := by
  have W : HB w [(w.heap.size + 1, 25, #[.bool n', .int .u64 a', .int .u64 b', .int .i64 s']), (w.heap.size, 25, #[.bool n, .int .u64 a, .int .u64 b, .int .i64 s])] ((w.alloc (.cells #[.bool n, .int .u64 a, .int .u64 b, .int .i64 s] 25)).alloc (.cells #[.bool n', .int .u64 a', .int .u64 b', .int .i64 s'] 25)) := by
    have h := ((HB.start (Below.refl _ w)).push #[.bool n, .int .u64 a, .int .u64 b, .int .i64 s] 25).push #[.bool n', .int .u64 a', .int .u64 b', .int .i64 s'] 25
    simpa using h
  have HR := Lib.hid (decide_eq_true hr)
  have HR' := Lib.hid (decide_eq_false hr')
  clear hr hr'
  go_enter Tryz.func24, Tryz.ntmps24
  go_wp2_with fail
  refine (right_v n a b s true _ ha hb1 HR.out).mono ?_
  rintro e w1 ⟨_, rfl, rfl, hb⟩
  replace W := W.below hb
  clear hb
  obtain ⟨lq, q0, q1, q2, q3⟩ := HB.dec (t := 25) (g := w.heap.size + 1) (a := .bool n') (b := .int .u64 a') (c := .int .u64 b') (d := .int .i64 s') W (by simp)
  go_wp2_with fail
  refine (right_v n' a' b' s' false _ ha' hb1' HR'.out).mono ?_
  rintro e w2 ⟨_, rfl, rfl, hb⟩
  replace W := W.below hb
  clear hb
  have HB1 := Lib.hid W.1
  clear W
  go_wp2
  go_ret
  exact ⟨_, rfl, rfl, HB1.out⟩
theorem sign_all (n : Bool) (a b s : Int) (w : World) (ha : U64 a) (hb1 : U64 b) :
    Calls Tryz.prog 22 #[.agg #[.bool n, .int .u64 a, .int .u64 b, .int .i64 s]] w (Ret w (IsInt (signV n a b s))) := by
  by_cases hr : RightD n a b s
  · rw [signV, if_pos hr]
    exact sign_d n a b s _ w (right_z ha hb1 hr) (zof_30 hr) hr.2.1 hr.2.2.1
  · rw [signV, if_neg hr]
    exact signA_no n a b s w ha hb1 hr
/-- -1, 0, 1: by their values; 0, where one is not right. -/
def cmpV (n : Bool) (a b s : Int) (n' : Bool) (a' b' s' : Int) : Int := if RightD n a b s ∧ RightD n' a' b' s' then cmpZ (zAt (zOf n (v2 a b)) s (max s s')) (zAt (zOf n' (v2 a' b')) s' (max s s')) else 0
theorem cmp_all (n : Bool) (a b s : Int) (n' : Bool) (a' b' s' : Int) (w : World) (ha : U64 a) (hb1 : U64 b) (ha' : U64 a') (hb1' : U64 b') :
    Calls Tryz.prog 24 #[.agg #[.bool n, .int .u64 a, .int .u64 b, .int .i64 s], .agg #[.bool n', .int .u64 a', .int .u64 b', .int .i64 s']] w (Ret w (IsInt (cmpV n a b s n' a' b' s'))) := by
  by_cases hr : RightD n a b s
  · by_cases hr' : RightD n' a' b' s'
    · rw [cmpV, if_pos ⟨hr, hr'⟩]
      exact cmp_t n a b s _ n' a' b' s' _ _ w (right_z ha hb1 hr) (right_z ha' hb1' hr') (zof_30 hr) (zof_30 hr') hr.2.1 hr'.2.1 hr.2.2.1 hr'.2.2.1 (by omega)
    · rw [cmpV, if_neg (fun h => hr' h.2)]
      exact cmpA_no2 n a b s n' a' b' s' w ha hb1 ha' hb1' hr hr'
  · rw [cmpV, if_neg (fun h => hr h.1)]
    exact cmpA_no1 n a b s n' a' b' s' w ha hb1 hr
end Go.Proofs.YtlhceelkefgjhaaGreatDoor

/- dec: Sub. -/
import Derived.Test.YtlhceelkefgjhaaGreatDoorDecF
import Derived.Test.YtlhceelkefgjhaaGreatDoorHold
namespace Go.Proofs.YtlhceelkefgjhaaGreatDoor
open Go.RowKit
theorem decIs_one {n n' : Bool} {a b a' b' z : Int} (h : DecIs n a b z) (h' : DecIs n' a' b' z) : n = n' ∧ a = a' ∧ b = b' := by
  obtain ⟨e, h1, h2, h3⟩ := h
  obtain ⟨e', h1', h2', h3'⟩ := h'
  refine ⟨e.trans e'.symm, ?_⟩
  rw [← h3'] at h3
  unfold U64 at *; unfold v2 at h3
  omega
theorem neg_v (n : Bool) (a b s z : Int) (n' : Bool) (a' b' : Int) (w : World) (h : DecIs n a b z) (h' : DecIs n' a' b' (-z)) (hz : z.natAbs < 1000000000000000000000000000000) (h0 : 0 ≤ s) (h9 : s ≤ 9) :
    Calls Tryz.prog 20 #[.agg #[.bool n, .int .u64 a, .int .u64 b, .int .i64 s]] w (Ret w (· = .agg #[.bool n', .int .u64 a', .int .u64 b', .int .i64 s])) :=
  (neg_d n a b s z w h hz h0 h9).mono fun e w' ⟨v, ⟨m, c, d, hd, ev⟩, he, hb⟩ => by
    obtain ⟨rfl, rfl, rfl⟩ := decIs_one hd h'
    exact ⟨v, ev, he, hb⟩
theorem cmp_v (n : Bool) (a b s z : Int) (n' : Bool) (a' b' s' z' t c : Int) (w : World) (h : DecIs n a b z) (h' : DecIs n' a' b' z') (hz : Sm z) (hz' : Sm z') (h0 : 0 ≤ s) (h0' : 0 ≤ s') (h9 : s ≤ 9) (h9' : s' ≤ 9) (ht : (s < s' ∧ s' = t) ∨ (s' ≤ s ∧ s = t)) (hc : cmpZ (zAt z s t) (zAt z' s' t) = c) :
    Calls Tryz.prog 24 #[.agg #[.bool n, .int .u64 a, .int .u64 b, .int .i64 s], .agg #[.bool n', .int .u64 a', .int .u64 b', .int .i64 s']] w (Ret w (· = .int .i64 c)) := by
  subst hc
  exact cmp_d n a b s z n' a' b' s' z' t w h h' hz hz' h0 h0' h9 h9' ht
theorem sign_v (n : Bool) (a b s z c : Int) (w : World) (h : DecIs n a b z) (hz : z.natAbs < 1000000000000000000000000000000) (h0 : 0 ≤ s) (h9 : s ≤ 9) (hc : z.sign = c) :
    Calls Tryz.prog 22 #[.agg #[.bool n, .int .u64 a, .int .u64 b, .int .i64 s]] w (Ret w (· = .int .i64 c)) := by
  subst hc
  exact sign_d n a b s z w h hz h0 h9
/-- A block of four cells, whatever they hold. -/
def Any4 (w : World) (g : Nat) (t : TypeId) : Prop := ∃ a b c d, Blk w g t #[a, b, c, d]
theorem Any4.drew {w : World} {g : Nat} {t : TypeId} (h : Any4 w g t) : Any4 w.drew g t := h
theorem Any4.below {w w' : World} {g : Nat} {t : TypeId} (h : Any4 w g t) (hb : Below w.heap.size w w') : Any4 w' g t := by
  obtain ⟨a, b, c, d, B⟩ := h
  exact ⟨a, b, c, d, B.below hb B.lt⟩
theorem Any4.alloc {w : World} {g : Nat} {t : TypeId} (h : Any4 w g t) (o : Obj) : Any4 (w.alloc o) g t := by
  obtain ⟨a, b, c, d, B⟩ := h
  exact ⟨a, b, c, d, B.alloc o⟩
theorem Any4.set4 {w : World} {g : Nat} {t : TypeId} {a' b' c' d' : Value} (h : Any4 w g t) : Any4 ((((w.setCell ⟨g, 0, none⟩ a').setCell ⟨g, 1, none⟩ b').setCell ⟨g, 2, none⟩ c').setCell ⟨g, 3, none⟩ d') g t := by
  obtain ⟨a, b, c, d, B⟩ := h
  exact ⟨a', b', c', d', by have := (((B.set_ 0 a').set_ 1 b').set_ 2 c').set_ 3 d'; simpa using this⟩
theorem Any4.facts {w : World} {g : Nat} {t : TypeId} (h : Any4 w g t) : g < w.heap.size ∧ ∃ a b c d, w.cell? ⟨g, 0, none⟩ = some a ∧ w.cell? ⟨g, 1, none⟩ = some b ∧ w.cell? ⟨g, 2, none⟩ = some c ∧ w.cell? ⟨g, 3, none⟩ = some d ∧ w.frozen? ⟨g, 0, none⟩ = false ∧ w.frozen? ⟨g, 1, none⟩ = false ∧ w.frozen? ⟨g, 2, none⟩ = false ∧ w.frozen? ⟨g, 3, none⟩ = false := by
  obtain ⟨a, b, c, d, B⟩ := h
  exact ⟨B.lt, a, b, c, d, by simpa using B.cell 0, by simpa using B.cell 1, by simpa using B.cell 2, by simpa using B.cell 3, B.frozen 0, B.frozen 1, B.frozen 2, B.frozen 3⟩
def Sub2 (w0 : World) (g : Nat) (n : Bool) (a b s : Int) (n' : Bool) (a' b' s' : Int) (w : World) : Prop := HB w0 [(g + 1, 25, #[.bool n', .int .u64 a', .int .u64 b', .int .i64 s']), (g, 25, #[.bool n, .int .u64 a, .int .u64 b, .int .i64 s])] w
theorem sub2_mk {w0 w : World} {g : Nat} {n : Bool} {a b s : Int} {n' : Bool} {a' b' s' : Int} (h : Sub2 w0 g n a b s n' a' b' s' w) (A : Any4 w (g + 1 + 1) 25) : Sub2 w0 g n a b s n' a' b' s' w ∧ Any4 w (g + 1 + 1) 25 ∧ (w.cell? ⟨g, 0, none⟩ = some (.bool n) ∧ w.cell? ⟨g, 1, none⟩ = some (.int .u64 a) ∧ w.cell? ⟨g, 2, none⟩ = some (.int .u64 b) ∧ w.cell? ⟨g, 3, none⟩ = some (.int .i64 s)) ∧ (w.cell? ⟨g + 1, 0, none⟩ = some (.bool n') ∧ w.cell? ⟨g + 1, 1, none⟩ = some (.int .u64 a') ∧ w.cell? ⟨g + 1, 2, none⟩ = some (.int .u64 b') ∧ w.cell? ⟨g + 1, 3, none⟩ = some (.int .i64 s')) :=
  ⟨h, A, (HB.dec (t := 25) h (by simp)).2, (HB.dec (t := 25) h (by simp)).2⟩
theorem sub2_keep {w0 w w' : World} {g : Nat} {n : Bool} {a b s : Int} {n' : Bool} {a' b' s' : Int} {P : Prop} (hb : Below w.heap.size w w') (h : Sub2 w0 g n a b s n' a' b' s' w ∧ Any4 w (g + 1 + 1) 25 ∧ P) : Sub2 w0 g n a b s n' a' b' s' w' ∧ Any4 w' (g + 1 + 1) 25 := ⟨HB.below h.1 hb, h.2.1.below hb⟩
theorem sub2_set {w0 w : World} {g : Nat} {n : Bool} {a b s : Int} {n' : Bool} {a' b' s' : Int} {p q r t : Value} (hg : w0.heap.size ≤ g) (h : Sub2 w0 g n a b s n' a' b' s' w ∧ Any4 w (g + 1 + 1) 25) : Sub2 w0 g n a b s n' a' b' s' ((((w.setCell ⟨g + 1 + 1, 0, none⟩ p).setCell ⟨g + 1 + 1, 1, none⟩ q).setCell ⟨g + 1 + 1, 2, none⟩ r).setCell ⟨g + 1 + 1, 3, none⟩ t) ∧ Any4 ((((w.setCell ⟨g + 1 + 1, 0, none⟩ p).setCell ⟨g + 1 + 1, 1, none⟩ q).setCell ⟨g + 1 + 1, 2, none⟩ r).setCell ⟨g + 1 + 1, 3, none⟩ t) (g + 1 + 1) 25 := by
  have hp : w0.heap.size ≤ g + 1 + 1 := by omega
  have hne : ∀ b0 ∈ [(g + 1, (25 : TypeId), (#[.bool n', .int .u64 a', .int .u64 b', .int .i64 s'] : Array Value)), (g, 25, #[.bool n, .int .u64 a, .int .u64 b, .int .i64 s])], b0.1 ≠ g + 1 + 1 := by
    intro b0 hb
    simp at hb
    rcases hb with rfl | rfl <;> simp <;> omega
  exact ⟨HB.set_ (HB.set_ (HB.set_ (HB.set_ h.1 (p := ⟨g + 1 + 1, 0, none⟩) hp hne _) (p := ⟨g + 1 + 1, 1, none⟩) hp hne _) (p := ⟨g + 1 + 1, 2, none⟩) hp hne _) (p := ⟨g + 1 + 1, 3, none⟩) hp hne _, h.2.set4⟩
set_option maxRecDepth 100000 in
set_option maxHeartbeats 1600000 in
theorem sub_d (n : Bool) (a b s z : Int) (n' : Bool) (a' b' s' z' t : Int) (w : World) (h' : DecIs n' a' b' z') (h : DecIs n a b z) (hz : Sm z) (hz' : Sm z') (h0 : 0 ≤ s) (h0' : 0 ≤ s') (h9 : s ≤ 9) (h9' : s' ≤ 9) (ht : (s < s' ∧ s' = t) ∨ (s' ≤ s ∧ s = t)) :
    Calls Tryz.prog 7 #[.agg #[.bool n, .int .u64 a, .int .u64 b, .int .i64 s], .agg #[.bool n', .int .u64 a', .int .u64 b', .int .i64 s']] w (Ret w (IsDecE (zAt z s t - zAt z' s' t) t 0)) := by
  have W : HB w [(w.heap.size + 1 + 1, 25, #[.bool false, .int .u64 0, .int .u64 0, .int .i64 0]), (w.heap.size + 1, 25, #[.bool n', .int .u64 a', .int .u64 b', .int .i64 s']), (w.heap.size, 25, #[.bool n, .int .u64 a, .int .u64 b, .int .i64 s])] (((w.alloc (.cells #[.bool n, .int .u64 a, .int .u64 b, .int .i64 s] 25)).alloc (.cells #[.bool n', .int .u64 a', .int .u64 b', .int .i64 s'] 25)).alloc (.cells #[.bool false, .int .u64 0, .int .u64 0, .int .i64 0] 25)) := by
    have h := (((HB.start (Below.refl _ w)).push #[.bool n, .int .u64 a, .int .u64 b, .int .i64 s] 25).push #[.bool n', .int .u64 a', .int .u64 b', .int .i64 s'] 25).push #[.bool false, .int .u64 0, .int .u64 0, .int .i64 0] 25
    simpa using h
  have hlg : w.heap.size ≤ w.heap.size + 1 + 1 := by omega
  have hz30' := Lib.hid (sm_30 hz')
  have hzn : Sm (-z') := by unfold Sm at *; omega
  obtain ⟨m, c, d, HN, -⟩ := decV_is (z := -z') (s := s') (by have := sm_30 hzn; exact this)
  have eS : zAt z s t - zAt z' s' t = zAt z s t + zAt (-z') s' t := by unfold zAt; rw [Int.neg_mul]; omega
  rw [eS]
  have HH := Lib.hid h
  have HH' := Lib.hid h'
  have HZ := Lib.hid hz
  have HZN := Lib.hid hzn
  have HNh := Lib.hid HN
  clear h h' hz hz' hzn HN eS
  go_enter Tryz.func7, Tryz.ntmps7
  go_wp2_with fail
  refine (right_d n' a' b' s' z' _ HH'.out hz30'.out h0' h9').mono ?_
  rintro e w1 ⟨_, rfl, rfl, hb⟩
  replace W := W.below hb
  clear hb
  have A0 : Any4 w1 (w.heap.size + 1 + 1) 25 := ⟨_, _, _, _, HB.blk (g := w.heap.size + 1 + 1) (t := 25) (cs := #[.bool false, .int .u64 0, .int .u64 0, .int .i64 0]) W (by simp)⟩
  have V : Sub2 w w.heap.size n a b s n' a' b' s' w1 := HB.sub W (by simp)
  have HV := Lib.hid (And.intro V A0)
  have l1 := (Any4.facts A0).1
  clear W V A0
  go_upto_region 3 with fail
  go_region_held3 (fun w' => Sub2 w w.heap.size n a b s n' a' b' s' w' ∧ Any4 w' (w.heap.size + 1 + 1) 25 ∧ (w'.cell? ⟨w.heap.size, 0, none⟩ = some (.bool n) ∧ w'.cell? ⟨w.heap.size, 1, none⟩ = some (.int .u64 a) ∧ w'.cell? ⟨w.heap.size, 2, none⟩ = some (.int .u64 b) ∧ w'.cell? ⟨w.heap.size, 3, none⟩ = some (.int .i64 s)) ∧ (w'.cell? ⟨w.heap.size + 1, 0, none⟩ = some (.bool n') ∧ w'.cell? ⟨w.heap.size + 1, 1, none⟩ = some (.int .u64 a') ∧ w'.cell? ⟨w.heap.size + 1, 2, none⟩ = some (.int .u64 b') ∧ w'.cell? ⟨w.heap.size + 1, 3, none⟩ = some (.int .i64 s')))
    (first
      | exact sub2_mk (HB.drew HV.out.1) HV.out.2
      | exact sub2_mk HX.out.1 HX.out.2
      | exact sub2_mk (sub2_set (Nat.le_refl _) HX.out).1 (sub2_set (Nat.le_refl _) HX.out).2)
    (first
      | (go_at_call 20; (with_reducible refine (neg_v n' a' b' s' z' m c d _ HH'.out HNh.out hz30'.out h0' h9').mono ?_); rintro e wx ⟨_, rfl, rfl, hbx⟩; have HX := Lib.hid (sub2_keep hbx (by assumption)); clear hbx)
      | (go_at_call 6; (with_reducible refine (add_d n a b s z m c d s' (-z') t _ HNh.out HH.out HZ.out HZN.out h0 h0' h9 h9' ht).mono ?_); rintro e wx ⟨_, ⟨n2, a2, b2, D2, rfl⟩, rfl, hbx⟩; have HX := Lib.hid (sub2_keep hbx (by assumption)); have HD2 := Lib.hid D2; clear D2 hbx; obtain ⟨lx, x0, x1, x2, x3, y0, y1, y2, y3, f0, f1, f2, f3⟩ := Any4.facts HX.out.2))
  all_goals
    go_wp2
    exact bodyPost_ret (v := .tuple #[.agg #[.bool n2, .int .u64 a2, .int .u64 b2, .int .i64 t], .int .i64 0]) (by simp [results, Tryz.results7, go_sem, y0, y1, y2, y3]) rfl ⟨_, ⟨_, _, _, HD2.out, rfl⟩, rfl, bel4 HX.out.1.1 hlg⟩
end Go.Proofs.YtlhceelkefgjhaaGreatDoor

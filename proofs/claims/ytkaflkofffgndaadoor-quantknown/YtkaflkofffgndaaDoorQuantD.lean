/- quant: rounded, where the answer fits. -/
import Derived.Test.YtkaflkofffgndaaDoorQuantC
namespace Go.Proofs.YtkaflkofffgndaaDoor
open Go.RowKit
def roundN (n : Bool) (A D : Nat) (mode : Int) : Nat := A / D + (if A % D ≠ 0 ∧ farB n (decide (A / D % 2 = 1)) (cmpI (A % D) (D - A % D)) mode = true then 1 else 0)
theorem rd_cutp {P Q : Prop} (hp : P) (h : P → Q) : Q := h hp
theorem rd_set4 {w : World} {g : Nat} {t : TypeId} {a b c d a' b' c' d' : Value} (h : Blk w g t #[a, b, c, d]) : Blk ((((w.setCell ⟨g, 0, none⟩ a').setCell ⟨g, 1, none⟩ b').setCell ⟨g, 2, none⟩ c').setCell ⟨g, 3, none⟩ d') g t #[a', b', c', d'] := by
  have := (((h.set_ 0 a').set_ 1 b').set_ 2 c').set_ 3 d'
  simpa using this
theorem rd_set2 {w : World} {g : Nat} {t : TypeId} {a b a' b' : Value} (h : Blk w g t #[a, b]) : Blk ((w.setCell ⟨g, 0, none⟩ a').setCell ⟨g, 1, none⟩ b') g t #[a', b'] := (h.set_ 0 a').set_ 1 b'
theorem v2_low (a : Int) : v2 a 0 = a.toNat := by
  unfold v2
  rw [Int.toNat_zero, Nat.zero_mul, Nat.add_zero]
theorem v4_lo2 (a b : Int) : v4 a b 0 0 = v2 a b := by
  unfold v4
  rw [(v2_zero u64_0 u64_0).2 ⟨rfl, rfl⟩, Nat.zero_mul, Nat.add_zero]
/-- What the long division leaves, where the answer fits. -/
theorem rd_words {x0 x1 x2 x3 d0 d1 q0 q1 q2 q3 r0 r1 s0 s1 : Int} {ok p : Bool} {n : Bool} {mode : Int} (hD : 0 < v2 d0 d1) (hN : roundN n (v4 x0 x1 x2 x3) (v2 d0 d1) mode < 1000000000000000000000000000000)
    (HD : DivR x0 x1 x2 x3 d0 d1 q0 q1 q2 q3 r0 r1 ok) (HS : ShortR q0 q1 q2 q3 s0 s1 p) :
    p = true ∧ s0 = q0 ∧ s1 = q1 ∧ U64 q0 ∧ U64 q1 ∧ U64 r0 ∧ U64 r1 ∧ v2 r0 r1 ≤ v2 d0 d1 ∧ ∃ c0 c1 : Int, U64 c0 ∧ U64 c1 ∧ v2 c0 c1 = roundN n (v4 x0 x1 x2 x3) (v2 d0 d1) mode ∧ v2 q0 q1 + v2 (stepI n (decide (q0 % 2 = 1)) (v2 r0 r1) (v2 d0 d1) mode) 0 = v2 c0 c1 ∧ U64 (stepI n (decide (q0 % 2 = 1)) (v2 r0 r1) (v2 d0 d1) mode) := by
  rcases HD with ⟨h, _⟩ | ⟨_, _, u0, u1, u2, u3, u4, u5, e1, e2⟩
  · omega
  · generalize v4 x0 x1 x2 x3 = A at *
    generalize v2 d0 d1 = B at *
    have hr : v2 r0 r1 < B := by rw [e2]; exact Nat.mod_lt _ hD
    unfold roundN at *
    rw [← e2] at hN ⊢
    generalize v2 r0 r1 = R at *
    generalize A / B = Q at *
    clear e2 A
    have hq : v4 q0 q1 q2 q3 < 1000000000000000000000000000000 := by rw [e1]; exact Nat.lt_of_le_of_lt (Nat.le_add_right _ _) hN
    have hz : q2 = 0 ∧ q3 = 0 := by
      have : v2 q2 q3 = 0 := by unfold v4 at hq; generalize v2 q0 q1 = X at hq; generalize v2 q2 q3 = Y at *; omega
      exact (v2_zero u2 u3).1 this
    obtain ⟨rfl, rfl⟩ := hz
    have hv : v2 q0 q1 = Q := by rw [← e1]; exact (v4_lo2 q0 q1).symm
    have hodd : decide (q0 % 2 = 1) = decide (Q % 2 = 1) := by
      rw [← hv]
      apply decide_eq_decide.2
      clear hN hq e1 hv
      unfold v2 U64 at *
      omega
    rw [hodd]
    have hst : stepI n (decide (Q % 2 = 1)) R B mode = ((if R ≠ 0 ∧ farB n (decide (Q % 2 = 1)) (cmpI R (B - R)) mode = true then 1 else 0 : Nat) : Int) := by
      unfold stepI
      split <;> simp
    rw [hst]
    have hs1 : (if R ≠ 0 ∧ farB n (decide (Q % 2 = 1)) (cmpI R (B - R)) mode = true then 1 else 0 : Nat) ≤ 1 := by split <;> omega
    generalize (if R ≠ 0 ∧ farB n (decide (Q % 2 = 1)) (cmpI R (B - R)) mode = true then 1 else 0 : Nat) = σ at *
    clear hst hodd hq e1
    have hvσ : v2 (σ : Int) 0 = σ := by rw [v2_low, Int.toNat_natCast]
    rcases HS with ⟨_, e, e0, e00⟩ | ⟨hn, _⟩
    · refine ⟨e, e0, e00, u0, u1, u4, u5, Nat.le_of_lt hr, (((Q + σ) % 18446744073709551616 : Nat) : Int), (((Q + σ) / 18446744073709551616 : Nat) : Int), ?_, ?_, ?_, ?_, ?_⟩
      · unfold U64; omega
      · unfold U64; omega
      · unfold v2; omega
      · rw [hv, hvσ]; unfold v2; omega
      · unfold U64; omega
    · exact absurd ⟨rfl, rfl⟩ hn
theorem add_v (a0 a1 b0 b1 c0 c1 : Int) (w : World) (ha0 : U64 a0) (ha1 : U64 a1) (hb0 : U64 b0) (hb1 : U64 b1) (hc0 : U64 c0) (hc1 : U64 c1) (h : v2 a0 a1 + v2 b0 b1 = v2 c0 c1) :
    Calls Tryd.prog 33 #[.agg #[.int .u64 a0, .int .u64 a1], .agg #[.int .u64 b0, .int .u64 b1]] w (Ret w (· = .tuple #[.agg #[.int .u64 c0, .int .u64 c1], .bool true])) :=
  (add_c a0 a1 b0 b1 w ha0 ha1 hb0 hb1).mono fun e w' ⟨v, ⟨s0, s1, p, H, ev⟩, he, hb⟩ => by
    have hl := v2_lt hc0 hc1
    obtain ⟨rfl, h0, h1, es⟩ : p = true ∧ U64 s0 ∧ U64 s1 ∧ v2 s0 s1 = v2 a0 a1 + v2 b0 b1 := by
      obtain ⟨g0, g1, ⟨_, e1, e4⟩ | ⟨hn, _⟩⟩ := H
      · exact ⟨e1, g0, g1, e4⟩
      · omega
    have e2 : s0 = c0 ∧ s1 = c1 := by rw [h] at es; unfold U64 v2 at *; omega
    obtain ⟨rfl, rfl⟩ := e2
    exact ⟨v, ev, he, hb⟩
theorem step_v (n : Bool) (c0 c1 r0 r1 d0 d1 mode σ : Int) (w : World) (hc0 : U64 c0) (hr0 : U64 r0) (hr1 : U64 r1) (hd0 : U64 d0) (hd1 : U64 d1) (hle : v2 r0 r1 ≤ v2 d0 d1) (hm : mode = 0 ∨ mode = 1 ∨ mode = 2 ∨ mode = 3 ∨ mode = 4) (hσ : stepI n (decide (c0 % 2 = 1)) (v2 r0 r1) (v2 d0 d1) mode = σ) :
    Calls Tryd.prog 34 #[.bool n, .agg #[.int .u64 c0, .int .u64 c1], .agg #[.int .u64 r0, .int .u64 r1], .agg #[.int .u64 d0, .int .u64 d1], .int .i64 mode] w (Ret w (· = .agg #[.int .u64 σ, .int .u64 0])) := by
  subst hσ
  exact step_c n c0 c1 r0 r1 d0 d1 mode w hc0 hr0 hr1 hd0 hd1 hle hm
theorem dec_sgn (n : Bool) {c0 c1 : Int} {N : Nat} (h0 : U64 c0) (h1 : U64 c1) (h : v2 c0 c1 = N) : DecIs (sgn n c0 c1) c0 c1 (zOf n N) := by
  refine ⟨?_, h0, h1, by rw [zOf_abs]; exact h⟩
  rw [zOf_neg, ← h]
  unfold sgn
  rw [eqW2_0 h0 h1]
theorem rdMk {w0 w : World} {gl gr gd ge : Nat} {q0 q1 r0 r1 d0 d1 : Int} (h : HB w0 [(gl, 25, #[.int .u64 q0, .int .u64 q1]), (gr, 25, #[.int .u64 r0, .int .u64 r1]), (ge, 27, #[.bool false, .int .u64 0, .int .u64 0, .int .i64 0]), (gd, 25, #[.int .u64 d0, .int .u64 d1])] w) : HB w0 [(gl, 25, #[.int .u64 q0, .int .u64 q1]), (gr, 25, #[.int .u64 r0, .int .u64 r1]), (ge, 27, #[.bool false, .int .u64 0, .int .u64 0, .int .i64 0]), (gd, 25, #[.int .u64 d0, .int .u64 d1])] w ∧ (w.cell? ⟨gl, 0, none⟩ = some (.int .u64 q0) ∧ w.cell? ⟨gl, 1, none⟩ = some (.int .u64 q1)) ∧ (w.cell? ⟨gr, 0, none⟩ = some (.int .u64 r0) ∧ w.cell? ⟨gr, 1, none⟩ = some (.int .u64 r1)) ∧ (w.cell? ⟨gd, 0, none⟩ = some (.int .u64 d0) ∧ w.cell? ⟨gd, 1, none⟩ = some (.int .u64 d1)) :=
  ⟨h, (HB.two (t := 25) h (by simp)).2, (HB.two (t := 25) h (by simp)).2, (HB.two (t := 25) h (by simp)).2⟩
set_option maxRecDepth 100000 in
set_option maxHeartbeats 6400000 in
theorem rounded_c (n : Bool) (x0 x1 x2 x3 d0 d1 t mode : Int) (w : World) (hx0 : U64 x0) (hx1 : U64 x1) (hx2 : U64 x2) (hx3 : U64 x3) (hd0 : U64 d0) (hd1 : U64 d1) (hD : 0 < v2 d0 d1) (h0 : 0 ≤ t) (h9 : t ≤ 9) (hm : mode = 0 ∨ mode = 1 ∨ mode = 2 ∨ mode = 3 ∨ mode = 4)
    (N : Nat) (hN : roundN n (v4 x0 x1 x2 x3) (v2 d0 d1) mode = N) (hb30 : N < 1000000000000000000000000000000) :
    Calls Tryd.prog 18 #[.bool n, .agg #[.int .u64 x0, .int .u64 x1, .int .u64 x2, .int .u64 x3], .agg #[.int .u64 d0, .int .u64 d1], .int .i64 t, .int .i64 mode] w (Ret w (IsDecE (zOf n N) t 0)) := by
  have W : HB w [(w.heap.size + 1 + 1, 27, #[.bool false, .int .u64 0, .int .u64 0, .int .i64 0]), (w.heap.size + 1, 25, #[.int .u64 d0, .int .u64 d1]), (w.heap.size, 44, #[.int .u64 x0, .int .u64 x1, .int .u64 x2, .int .u64 x3])] (((w.alloc (.cells #[.int .u64 x0, .int .u64 x1, .int .u64 x2, .int .u64 x3] 44)).alloc (.cells #[.int .u64 d0, .int .u64 d1] 25)).alloc (.cells #[.bool false, .int .u64 0, .int .u64 0, .int .i64 0] 27)) := by
    have h := (((HB.start (Below.refl _ w)).push #[.int .u64 x0, .int .u64 x1, .int .u64 x2, .int .u64 x3] 44).push #[.int .u64 d0, .int .u64 d1] 25).push #[.bool false, .int .u64 0, .int .u64 0, .int .i64 0] 27
    simpa using h
  have hlg : w.heap.size ≤ w.heap.size + 1 + 1 := by omega
  have HM := Lib.hid hm
  have HDp := Lib.hid hD
  have HN := Lib.hid (And.intro hN hb30)
  clear hm hD hN hb30
  go_enter Tryd.func18, Tryd.ntmps18
  go_wp2_with fail
  refine (div_c x0 x1 x2 x3 d0 d1 _ hx0 hx1 hx2 hx3 hd0 hd1).mono ?_
  rintro e w1 ⟨_, ⟨q0, q1, q2, q3, r0, r1, ok, HDv, rfl⟩, rfl, hb⟩
  replace W := W.below hb
  have hsz1 := hb.size
  simp at hsz1
  clear hb
  replace W := (W.push #[.int .u64 q0, .int .u64 q1, .int .u64 q2, .int .u64 q3] 44).push #[.int .u64 r0, .int .u64 r1] 25
  go_wp2_with fail
  refine (short_c q0 q1 q2 q3 _).mono ?_
  rintro e w2 ⟨_, ⟨s0, s1, p, HS, rfl⟩, rfl, hb⟩
  replace W := W.below hb
  have hsz2 := hb.size
  simp at hsz2
  clear hb
  obtain ⟨rfl, rfl, rfl, hq0, hq1, hr0, hr1, hrd, c0, c1, hc0, hc1, hcN, hsum, hσu⟩ := rd_words HDp.out (by rw [HN.out.1]; exact HN.out.2) HDv HS
  rw [HN.out.1] at hcN
  have HRD := Lib.hid hrd
  have HSUM := Lib.hid hsum
  have HCN := Lib.hid hcN
  clear HDv HS hrd hsum hcN
  obtain ⟨σ, hσ⟩ : ∃ σ, stepI n (decide (s0 % 2 = 1)) (v2 r0 r1) (v2 d0 d1) mode = σ := ⟨_, rfl⟩
  rw [hσ] at hσu
  have HSG := Lib.hid hσ
  clear hσ
  have hW3 : HB w [(w2.heap.size, 25, #[.int .u64 s0, .int .u64 s1]), (w1.heap.size + 1, 25, #[.int .u64 r0, .int .u64 r1]), (w.heap.size + 1 + 1, 27, #[.bool false, .int .u64 0, .int .u64 0, .int .i64 0]), (w.heap.size + 1, 25, #[.int .u64 d0, .int .u64 d1])] (w2.alloc (.cells #[.int .u64 s0, .int .u64 s1] 25)) := by
    have h := W.push #[.int .u64 s0, .int .u64 s1] 25
    refine HB.sub h ?_
    simp
  clear W
  go_upto_region 3 with fail
  go_cut [17, 18] (fun s t' wx => ∃ gc : Nat, s = .pointer (some ⟨gc, 0, none⟩) ∧ t' = .bool true ∧ HB w [(gc, 25, #[.int .u64 c0, .int .u64 c1]), (w.heap.size + 1 + 1, 27, #[.bool false, .int .u64 0, .int .u64 0, .int .i64 0])] wx)
  case first =>
    go_region_held3 (fun w' => HB w [(w2.heap.size, 25, #[.int .u64 s0, .int .u64 s1]), (w1.heap.size + 1, 25, #[.int .u64 r0, .int .u64 r1]), (w.heap.size + 1 + 1, 27, #[.bool false, .int .u64 0, .int .u64 0, .int .i64 0]), (w.heap.size + 1, 25, #[.int .u64 d0, .int .u64 d1])] w' ∧ (w'.cell? ⟨w2.heap.size, 0, none⟩ = some (.int .u64 s0) ∧ w'.cell? ⟨w2.heap.size, 1, none⟩ = some (.int .u64 s1)) ∧ (w'.cell? ⟨w1.heap.size + 1, 0, none⟩ = some (.int .u64 r0) ∧ w'.cell? ⟨w1.heap.size + 1, 1, none⟩ = some (.int .u64 r1)) ∧ (w'.cell? ⟨w.heap.size + 1, 0, none⟩ = some (.int .u64 d0) ∧ w'.cell? ⟨w.heap.size + 1, 1, none⟩ = some (.int .u64 d1)))
      ((refine rdMk ?_; repeat (first | (with_reducible exact HWa) | (with_reducible exact HWs) | (with_reducible exact hW3) | (with_reducible refine HB.drew ?_) | (with_reducible refine HB.alloc ?_ _) | ((with_reducible refine HB.set_ ?_ ?_ ?_ _); rotate_left; (focus (simp; omega)); (focus (simp; omega))))))
      (first
        | (go_at_call 34; (with_reducible refine (step_v n s0 s1 r0 r1 d0 d1 mode σ _ hq0 hr0 hr1 hd0 hd1 HRD.out HM.out HSG.out).mono ?_); rintro e ws ⟨_, rfl, rfl, hbs⟩; have HWs := keepB hbs (by assumption); have HBs := HB.bel HWs; have hszs := hbs.size; (try simp at hszs); (try ((refine rd_cutp (P := Blk ws (w2.heap.size + 1) 25 #[.int .u64 0, .int .u64 0]) ?_ ?_); (focus ((refine Blk.below ?_ hbs ?_); (focus ((repeat (first | (with_reducible assumption) | ((with_reducible refine Blk.new_at ?_); (simp; done)) | (with_reducible refine Blk.drew ?_) | (with_reducible refine Blk.alloc ?_ _))); done)); (first | omega | (simp; done) | (simp; omega)))); intro A; have lA := A.lt; have A0 := A.cell 0; have A1 := A.cell 1; have fA0 := A.frozen 0; have fA1 := A.frozen 1; simp at A0 A1)); clear hbs)
        | (go_at_call 33; (with_reducible refine (add_v s0 s1 σ 0 c0 c1 _ hq0 hq1 hσu u64_0 hc0 hc1 (by rw [← HSG.out]; exact HSUM.out)).mono ?_); rintro e wa ⟨_, rfl, rfl, hba⟩; have HWa := keepB hba (by assumption); have HBa := HB.bel HWa; have hsza := hba.size; (try simp at hsza); (try ((refine rd_cutp (P := Blk wa (w2.heap.size + 1) 25 #[.int .u64 0, .int .u64 0]) ?_ ?_); (focus ((refine Blk.below ?_ hba ?_); (focus ((repeat (first | (with_reducible assumption) | ((with_reducible refine Blk.new_at ?_); (simp; done)) | (with_reducible refine Blk.drew ?_) | (with_reducible refine Blk.alloc ?_ _))); done)); (first | omega | (simp; done) | (simp; omega)))); intro B; have lB := B.lt; have B0 := B.cell 0; have B1 := B.cell 1; have fB0 := B.frozen 0; have fB1 := B.frozen 1; simp at B0 B1)); (try ((refine rd_cutp (P := Blk wa (ws.heap.size) 25 #[.int .u64 0, .int .u64 0]) ?_ ?_); (focus ((refine Blk.below ?_ hba ?_); (focus ((repeat (first | (with_reducible assumption) | ((with_reducible refine Blk.new_at ?_); (simp; done)) | (with_reducible refine Blk.drew ?_) | (with_reducible refine Blk.alloc ?_ _))); done)); (first | omega | (simp; done) | (simp; omega)))); intro C; have lC := C.lt; have C0 := C.cell 0; have C1 := C.cell 1; have fC0 := C.frozen 0; have fC1 := C.frozen 1; simp at C0 C1)); clear hba))
    all_goals
      go_wp2_with fail
      go_meet
      case rel =>
        refine ⟨_, rfl, rfl, ?_, ?_⟩
        · repeat (first | (with_reducible exact HBa) | (with_reducible refine bel_alloc ?_ _) | ((with_reducible refine Below.setCell ?_ ?_ _); rotate_left; (focus (simp; omega))))
        · intro b hb
          simp only [List.mem_cons, List.not_mem_nil, or_false] at hb
          rcases hb with rfl | rfl
          · dsimp only
            repeat (first | ((with_reducible refine Blk.new_at ?_); (simp; done)) | (with_reducible refine Blk.alloc ?_ _) | (with_reducible exact rd_set2 B) | (with_reducible exact rd_set2 C) | (with_reducible refine rd_set2 (a := .int .u64 0) (b := .int .u64 0) ?_))
          · dsimp only
            have BR := HB.blk (g := w.heap.size + 1 + 1) (t := 27) (cs := #[.bool false, .int .u64 0, .int .u64 0, .int .i64 0]) HWa (by simp)
            repeat (first | (with_reducible exact BR) | (with_reducible refine Blk.alloc ?_ _) | (refine Blk.far (p := ⟨_, _, none⟩) ?_ (by first | (simp; done) | (simp; omega)) _))
  case rest =>
    clear hW3
    obtain ⟨gc, rfl, rfl, W⟩ := hcut
    obtain ⟨m, hm⟩ : ∃ m, sgn n c0 c1 = m := ⟨_, rfl⟩
    have HDI := Lib.hid (dec_sgn n hc0 hc1 HCN.out)
    rw [hm] at HDI
    have HB30 := Lib.hid HN.out.2
    clear HN
    go_upto_region 4 with fail
    go_cut [19] (fun s wx => ∃ gd : Nat, s = .pointer (some ⟨gd, 0, none⟩) ∧ HB w [(gd, 27, #[.bool m, .int .u64 c0, .int .u64 c1, .int .i64 t]), (w.heap.size + 1 + 1, 27, #[.bool false, .int .u64 0, .int .u64 0, .int .i64 0])] wx)
    case first =>
      have HBc := HB.bel W
      have BR := HB.blk (g := w.heap.size + 1 + 1) (t := 27) (cs := #[.bool false, .int .u64 0, .int .u64 0, .int .i64 0]) W (by simp)
      obtain ⟨lc, k0, k1⟩ := HB.two (t := 25) (g := gc) (a := .int .u64 c0) (b := .int .u64 c1) W (by simp)
      clear W
      cases n
      · obtain rfl : m = false := by rw [← hm]; simp [sgn]
        clear hm
        go_region
        all_goals
          go_wp2_with fail
          go_meet
        all_goals
          refine ⟨_, rfl, ?_, ?_⟩
          · repeat (first | (with_reducible exact HBc) | (with_reducible refine Below.drew ?_) | (with_reducible refine bel_alloc ?_ _))
          · intro b hb
            simp only [List.mem_cons, List.not_mem_nil, or_false] at hb
            rcases hb with rfl | rfl
            · dsimp only
              repeat (first | ((with_reducible refine Blk.new_at ?_); (simp; done)) | (with_reducible refine Blk.drew ?_) | (with_reducible refine Blk.alloc ?_ _))
            · dsimp only
              repeat (first | (with_reducible exact BR) | (with_reducible refine Blk.drew ?_) | (with_reducible refine Blk.alloc ?_ _))
      · obtain ⟨q, hq⟩ : ∃ q, eqW2 c0 c1 0 0 = q := ⟨_, rfl⟩
        obtain rfl : m = !q := by rw [← hm, ← hq]; simp [sgn]
        clear hm
        go_region_held3 (fun w' => w'.cell? ⟨gc, 0, none⟩ = some (.int .u64 c0) ∧ w'.cell? ⟨gc, 1, none⟩ = some (.int .u64 c1)) (first | exact ⟨k0, k1⟩ | (simp [go_sem, lc, k0, k1]; done) | (simp [go_sem, *]; done)) (first | (go_at_call 12; refine (of_x _ _).mono ?_; rintro e wx ⟨rfl, rfl⟩))
        all_goals
          go_wp2_with fail
          go_meet
        all_goals
          refine ⟨_, rfl, ?_, ?_⟩
          · repeat (first | (with_reducible exact HBc) | (with_reducible refine Below.drew ?_) | (with_reducible refine bel_alloc ?_ _))
          · intro b hb
            simp only [List.mem_cons, List.not_mem_nil, or_false] at hb
            rcases hb with rfl | rfl
            · dsimp only
              repeat (first | ((with_reducible refine Blk.new_at ?_); (simp; done)) | (with_reducible refine Blk.drew ?_) | (with_reducible refine Blk.alloc ?_ _))
            · dsimp only
              repeat (first | (with_reducible exact BR) | (with_reducible refine Blk.drew ?_) | (with_reducible refine Blk.alloc ?_ _))
    case rest =>
      clear W
      obtain ⟨gd, rfl, W⟩ := hcut
      obtain ⟨lg, g0, g1, g2, g3⟩ := HB.dec (t := 27) (g := gd) (a := .bool m) (b := .int .u64 c0) (c := .int .u64 c1) (d := .int .i64 t) W (by simp)
      go_wp2_with fail
      refine (right_d m c0 c1 t (zOf n N) _ HDI.out (by rw [zOf_abs]; exact HB30.out) h0 h9).mono ?_
      rintro e w6 ⟨_, rfl, rfl, hb⟩
      replace W := W.below hb
      clear hb lg g0 g1 g2 g3
      obtain ⟨lg, g0, g1, g2, g3⟩ := HB.dec (t := 27) (g := gd) (a := .bool m) (b := .int .u64 c0) (c := .int .u64 c1) (d := .int .i64 t) W (by simp)
      obtain ⟨lq, y0, y1, y2, y3⟩ := HB.dec (t := 27) (g := w.heap.size + 1 + 1) (a := .bool false) (b := .int .u64 0) (c := .int .u64 0) (d := .int .i64 0) W (by simp)
      have Bz := HB.blk (g := w.heap.size + 1 + 1) (t := 27) (cs := #[.bool false, .int .u64 0, .int .u64 0, .int .i64 0]) W (by simp)
      have fz0 := Bz.frozen 0
      have fz1 := Bz.frozen 1
      have fz2 := Bz.frozen 2
      have fz3 := Bz.frozen 3
      clear Bz
      have HB1 := Lib.hid W.1
      clear W
      go_wp2
      exact bodyPost_ret (v := .tuple #[.agg #[.bool m, .int .u64 c0, .int .u64 c1, .int .i64 t], .int .i64 0]) (by simp [results, Tryd.results18, go_sem, y0, y1, y2, y3]) rfl ⟨_, ⟨_, _, _, HDI.out, rfl⟩, rfl, bel4 HB1.out hlg⟩
end Go.Proofs.YtkaflkofffgndaaDoor

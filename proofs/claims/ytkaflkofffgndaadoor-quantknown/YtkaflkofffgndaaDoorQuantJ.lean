/- Package quant: rounded at any number: over where it has more than thirty digits. -/
import Derived.Test.YtkaflkofffgndaaDoorQuantD
import Derived.Test.YtkaflkofffgndaaDoorDecH
namespace Go.Proofs.YtkaflkofffgndaaDoor
open Go.RowKit
theorem words_one {a b c d : Int} (ha : U64 a) (hb : U64 b) (hc : U64 c) (hd : U64 d) (h : v2 a b = v2 c d) : a = c ∧ b = d := by unfold U64 v2 at *; omega
theorem addR_one {a0 a1 b0 b1 c0 c1 s0 s1 : Int} {p q : Bool} (h : AddR a0 a1 b0 b1 c0 c1 p) (h' : AddR a0 a1 b0 b1 s0 s1 q) : c0 = s0 ∧ c1 = s1 ∧ p = q := by
  obtain ⟨u0, u1, h⟩ := h
  obtain ⟨u2, u3, h'⟩ := h'
  rcases h with ⟨l, rfl, e⟩ | ⟨l, rfl, rfl, rfl⟩ <;> rcases h' with ⟨l', rfl, e'⟩ | ⟨l', rfl, rfl, rfl⟩
  · obtain ⟨e1, e2⟩ := words_one u0 u1 u2 u3 (e.trans e'.symm)
    exact ⟨e1, e2, rfl⟩
  · omega
  · omega
  · exact ⟨rfl, rfl, rfl⟩
theorem addR_ex {a0 a1 b0 b1 : Int} : ∃ (c0 c1 : Int) (p : Bool), AddR a0 a1 b0 b1 c0 c1 p := by
  rcases Nat.lt_or_ge (v2 a0 a1 + v2 b0 b1) 340282366920938463463374607431768211456 with l | l
  · refine ⟨(((v2 a0 a1 + v2 b0 b1) % 18446744073709551616 : Nat) : Int), (((v2 a0 a1 + v2 b0 b1) / 18446744073709551616 : Nat) : Int), true, ?_, ?_, .inl ⟨l, rfl, ?_⟩⟩
    · unfold U64; omega
    · unfold U64; omega
    · generalize v2 a0 a1 + v2 b0 b1 = S at *
      unfold v2
      omega
  · exact ⟨0, 0, false, u64_0, u64_0, .inr ⟨l, rfl, rfl, rfl⟩⟩
theorem add_vr (a0 a1 b0 b1 c0 c1 : Int) (p : Bool) (w : World) (ha0 : U64 a0) (ha1 : U64 a1) (hb0 : U64 b0) (hb1 : U64 b1) (h : AddR a0 a1 b0 b1 c0 c1 p) :
    Calls Tryd.prog 33 #[.agg #[.int .u64 a0, .int .u64 a1], .agg #[.int .u64 b0, .int .u64 b1]] w (Ret w (· = .tuple #[.agg #[.int .u64 c0, .int .u64 c1], .bool p])) :=
  (add_c a0 a1 b0 b1 w ha0 ha1 hb0 hb1).mono fun e w' ⟨_, ⟨s0, s1, q, hr, hv⟩, he, hb⟩ => by
    obtain ⟨rfl, rfl, rfl⟩ := addR_one hr h
    exact ⟨_, hv, he, hb⟩
theorem rd_over {x0 x1 x2 x3 d0 d1 q0 q1 q2 q3 r0 r1 s0 s1 : Int} {ok p : Bool} {n : Bool} {mode : Int} (hD : 0 < v2 d0 d1) (hN : 1000000000000000000000000000000 ≤ roundN n (v4 x0 x1 x2 x3) (v2 d0 d1) mode)
    (HD : DivR x0 x1 x2 x3 d0 d1 q0 q1 q2 q3 r0 r1 ok) (HS : ShortR q0 q1 q2 q3 s0 s1 p) :
    U64 s0 ∧ U64 s1 ∧ U64 r0 ∧ U64 r1 ∧ v2 r0 r1 ≤ v2 d0 d1 ∧ ∃ (c0 c1 : Int) (pt : Bool), U64 (stepI n (decide (s0 % 2 = 1)) (v2 r0 r1) (v2 d0 d1) mode) ∧ AddR s0 s1 (stepI n (decide (s0 % 2 = 1)) (v2 r0 r1) (v2 d0 d1) mode) 0 c0 c1 pt ∧ (p = true → pt = true → 1000000000000000000000000000000 ≤ v2 c0 c1) := by
  rcases HD with ⟨h, _⟩ | ⟨_, _, u0, u1, u2, u3, u4, u5, e1, e2⟩
  · omega
  · generalize v4 x0 x1 x2 x3 = A at *
    generalize v2 d0 d1 = B at *
    have hr : v2 r0 r1 < B := by rw [e2]; exact Nat.mod_lt _ hD
    have hst : ∀ o : Bool, stepI n o (v2 r0 r1) B mode = ((if v2 r0 r1 ≠ 0 ∧ farB n o (cmpI (v2 r0 r1) (B - v2 r0 r1)) mode = true then 1 else 0 : Nat) : Int) := by
      intro o
      unfold stepI
      split <;> simp
    have hu : ∀ o : Bool, U64 (stepI n o (v2 r0 r1) B mode) := by
      intro o
      unfold stepI
      split <;> (unfold U64; omega)
    have hs : U64 s0 ∧ U64 s1 := by
      rcases HS with ⟨_, _, e0, e00⟩ | ⟨_, _, e0, e00⟩
      · rw [e0, e00]; exact ⟨u0, u1⟩
      · rw [e0, e00]; exact ⟨u64_0, u64_0⟩
    obtain ⟨c0, c1, pt, hadd⟩ := addR_ex (a0 := s0) (a1 := s1) (b0 := stepI n (decide (s0 % 2 = 1)) (v2 r0 r1) B mode) (b1 := 0)
    refine ⟨hs.1, hs.2, u4, u5, Nat.le_of_lt hr, c0, c1, pt, hu _, hadd, ?_⟩
    rintro rfl rfl
    rcases HS with ⟨⟨z2, z3⟩, _, e0, e00⟩ | ⟨_, e, _⟩
    · subst z2 z3 e0 e00
      rcases hadd.2.2 with ⟨_, _, e⟩ | ⟨_, e, _⟩
      · rw [e]
        have hv : v2 s0 s1 = A / B := by rw [← e1]; exact (v4_lo2 s0 s1).symm
        have hodd : decide (s0 % 2 = 1) = decide (A / B % 2 = 1) := by
          rw [← hv]
          apply decide_eq_decide.2
          clear hN e1 hv hadd e hst hu e2 hr
          unfold v2 U64 at *
          omega
        rw [hst, v2_low, Int.toNat_natCast, hodd, hv, e2]
        exact hN
      · cases e
    · cases e
set_option maxRecDepth 100000 in
set_option maxHeartbeats 6400000 in
theorem rounded_over (n : Bool) (x0 x1 x2 x3 d0 d1 t mode : Int) (w : World) (hx0 : U64 x0) (hx1 : U64 x1) (hx2 : U64 x2) (hx3 : U64 x3) (hd0 : U64 d0) (hd1 : U64 d1) (hD : 0 < v2 d0 d1) (hm : mode = 0 ∨ mode = 1 ∨ mode = 2 ∨ mode = 3 ∨ mode = 4)
    (N : Nat) (hN : roundN n (v4 x0 x1 x2 x3) (v2 d0 d1) mode = N) (hb30 : 1000000000000000000000000000000 ≤ N) :
    Calls Tryd.prog 18 #[.bool n, .agg #[.int .u64 x0, .int .u64 x1, .int .u64 x2, .int .u64 x3], .agg #[.int .u64 d0, .int .u64 d1], .int .i64 t, .int .i64 mode] w (Ret w (Ans (errV 3))) := by
  have W : HB w [(w.heap.size + 1 + 1, 27, #[.bool false, .int .u64 0, .int .u64 0, .int .i64 0]), (w.heap.size + 1, 25, #[.int .u64 d0, .int .u64 d1]), (w.heap.size, 44, #[.int .u64 x0, .int .u64 x1, .int .u64 x2, .int .u64 x3])] (((w.alloc (.cells #[.int .u64 x0, .int .u64 x1, .int .u64 x2, .int .u64 x3] 44)).alloc (.cells #[.int .u64 d0, .int .u64 d1] 25)).alloc (.cells #[.bool false, .int .u64 0, .int .u64 0, .int .i64 0] 27)) := by
    have h := (((HB.start (Below.refl _ w)).push #[.int .u64 x0, .int .u64 x1, .int .u64 x2, .int .u64 x3] 44).push #[.int .u64 d0, .int .u64 d1] 25).push #[.bool false, .int .u64 0, .int .u64 0, .int .i64 0] 27
    simpa using h
  have hlg : w.heap.size ≤ w.heap.size + 1 + 1 := by omega
  have HM := Lib.hid hm
  have HDp := Lib.hid hD
  have HN := Lib.hid (And.intro hN hb30)
  clear hm hD hN hb30
  go_enter Tryd.func18, Tryd.ntmps18
  go_wp2_with fail
  refine (div_c x0 x1 x2 x3 d0 d1 _ hx0 hx1 hx2 hx3 hd0 hd1).mono ?_
  rintro e w1 ⟨_, ⟨q0, q1, q2, q3, r0, r1, ok, HDv, rfl⟩, rfl, hb⟩
  replace W := W.below hb
  have hsz1 := hb.size
  simp at hsz1
  clear hb
  replace W := (W.push #[.int .u64 q0, .int .u64 q1, .int .u64 q2, .int .u64 q3] 44).push #[.int .u64 r0, .int .u64 r1] 25
  go_wp2_with fail
  refine (short_c q0 q1 q2 q3 _).mono ?_
  rintro e w2 ⟨_, ⟨s0, s1, p, HS, rfl⟩, rfl, hb⟩
  replace W := W.below hb
  have hsz2 := hb.size
  simp at hsz2
  clear hb
  obtain ⟨hq0, hq1, hr0, hr1, hrd, c0, c1, pt, hσu, hadd, hov⟩ := rd_over HDp.out (by rw [HN.out.1]; exact HN.out.2) HDv HS
  have HRD := Lib.hid hrd
  have HADD := Lib.hid hadd
  have HOV := Lib.hid hov
  clear HDv HS hrd hadd hov
  obtain ⟨σ, hσ⟩ : ∃ σ, stepI n (decide (s0 % 2 = 1)) (v2 r0 r1) (v2 d0 d1) mode = σ := ⟨_, rfl⟩
  rw [hσ] at hσu HADD
  have HSG := Lib.hid hσ
  clear hσ
  have hW3 : HB w [(w2.heap.size, 25, #[.int .u64 s0, .int .u64 s1]), (w1.heap.size + 1, 25, #[.int .u64 r0, .int .u64 r1]), (w.heap.size + 1 + 1, 27, #[.bool false, .int .u64 0, .int .u64 0, .int .i64 0]), (w.heap.size + 1, 25, #[.int .u64 d0, .int .u64 d1])] (w2.alloc (.cells #[.int .u64 s0, .int .u64 s1] 25)) := by
    have h := W.push #[.int .u64 s0, .int .u64 s1] 25
    refine HB.sub h ?_
    simp
  clear W
  go_upto_region 3 with fail
  go_cut [17, 18] (fun s t' wx => ∃ gc : Nat, s = .pointer (some ⟨gc, 0, none⟩) ∧ t' = .bool pt ∧ HB w [(gc, 25, #[.int .u64 c0, .int .u64 c1]), (w.heap.size + 1 + 1, 27, #[.bool false, .int .u64 0, .int .u64 0, .int .i64 0])] wx)
  case first =>
    go_region_held3 (fun w' => HB w [(w2.heap.size, 25, #[.int .u64 s0, .int .u64 s1]), (w1.heap.size + 1, 25, #[.int .u64 r0, .int .u64 r1]), (w.heap.size + 1 + 1, 27, #[.bool false, .int .u64 0, .int .u64 0, .int .i64 0]), (w.heap.size + 1, 25, #[.int .u64 d0, .int .u64 d1])] w' ∧ (w'.cell? ⟨w2.heap.size, 0, none⟩ = some (.int .u64 s0) ∧ w'.cell? ⟨w2.heap.size, 1, none⟩ = some (.int .u64 s1)) ∧ (w'.cell? ⟨w1.heap.size + 1, 0, none⟩ = some (.int .u64 r0) ∧ w'.cell? ⟨w1.heap.size + 1, 1, none⟩ = some (.int .u64 r1)) ∧ (w'.cell? ⟨w.heap.size + 1, 0, none⟩ = some (.int .u64 d0) ∧ w'.cell? ⟨w.heap.size + 1, 1, none⟩ = some (.int .u64 d1)))
      ((refine rdMk ?_; repeat (first | (with_reducible exact HWa) | (with_reducible exact HWs) | (with_reducible exact hW3) | (with_reducible refine HB.drew ?_) | (with_reducible refine HB.alloc ?_ _) | ((with_reducible refine HB.set_ ?_ ?_ ?_ _); rotate_left; (focus (simp; omega)); (focus (simp; omega))))))
      (first
        | (go_at_call 34; (with_reducible refine (step_v n s0 s1 r0 r1 d0 d1 mode σ _ hq0 hr0 hr1 hd0 hd1 HRD.out HM.out HSG.out).mono ?_); rintro e ws ⟨_, rfl, rfl, hbs⟩; have HWs := keepB hbs (by assumption); have HBs := HB.bel HWs; have hszs := hbs.size; (try simp at hszs); (try ((refine rd_cutp (P := Blk ws (w2.heap.size + 1) 25 #[.int .u64 0, .int .u64 0]) ?_ ?_); (focus ((refine Blk.below ?_ hbs ?_); (focus ((repeat (first | (with_reducible assumption) | ((with_reducible refine Blk.new_at ?_); (simp; done)) | (with_reducible refine Blk.drew ?_) | (with_reducible refine Blk.alloc ?_ _))); done)); (first | omega | (simp; done) | (simp; omega)))); intro A; have lA := A.lt; have A0 := A.cell 0; have A1 := A.cell 1; have fA0 := A.frozen 0; have fA1 := A.frozen 1; simp at A0 A1)); clear hbs)
        | (go_at_call 33; (with_reducible refine (add_vr s0 s1 σ 0 c0 c1 pt _ hq0 hq1 hσu u64_0 HADD.out).mono ?_); rintro e wa ⟨_, rfl, rfl, hba⟩; have HWa := keepB hba (by assumption); have HBa := HB.bel HWa; have hsza := hba.size; (try simp at hsza); (try ((refine rd_cutp (P := Blk wa (w2.heap.size + 1) 25 #[.int .u64 0, .int .u64 0]) ?_ ?_); (focus ((refine Blk.below ?_ hba ?_); (focus ((repeat (first | (with_reducible assumption) | ((with_reducible refine Blk.new_at ?_); (simp; done)) | (with_reducible refine Blk.drew ?_) | (with_reducible refine Blk.alloc ?_ _))); done)); (first | omega | (simp; done) | (simp; omega)))); intro B; have lB := B.lt; have B0 := B.cell 0; have B1 := B.cell 1; have fB0 := B.frozen 0; have fB1 := B.frozen 1; simp at B0 B1)); (try ((refine rd_cutp (P := Blk wa (ws.heap.size) 25 #[.int .u64 0, .int .u64 0]) ?_ ?_); (focus ((refine Blk.below ?_ hba ?_); (focus ((repeat (first | (with_reducible assumption) | ((with_reducible refine Blk.new_at ?_); (simp; done)) | (with_reducible refine Blk.drew ?_) | (with_reducible refine Blk.alloc ?_ _))); done)); (first | omega | (simp; done) | (simp; omega)))); intro C; have lC := C.lt; have C0 := C.cell 0; have C1 := C.cell 1; have fC0 := C.frozen 0; have fC1 := C.frozen 1; simp at C0 C1)); clear hba))
    all_goals
      go_wp2_with fail
      go_meet
      case rel =>
        refine ⟨_, rfl, rfl, ?_, ?_⟩
        · repeat (first | (with_reducible exact HBa) | (with_reducible refine bel_alloc ?_ _) | ((with_reducible refine Below.setCell ?_ ?_ _); rotate_left; (focus (simp; omega))))
        · intro b hb
          simp only [List.mem_cons, List.not_mem_nil, or_false] at hb
          rcases hb with rfl | rfl
          · dsimp only
            repeat (first | ((with_reducible refine Blk.new_at ?_); (simp; done)) | (with_reducible refine Blk.alloc ?_ _) | (with_reducible exact rd_set2 B) | (with_reducible exact rd_set2 C) | (with_reducible refine rd_set2 (a := .int .u64 0) (b := .int .u64 0) ?_))
          · dsimp only
            have BR := HB.blk (g := w.heap.size + 1 + 1) (t := 27) (cs := #[.bool false, .int .u64 0, .int .u64 0, .int .i64 0]) HWa (by simp)
            repeat (first | (with_reducible exact BR) | (with_reducible refine Blk.alloc ?_ _) | (refine Blk.far (p := ⟨_, _, none⟩) ?_ (by first | (simp; done) | (simp; omega)) _))
  case rest =>
    clear hW3
    obtain ⟨gc, rfl, rfl, W⟩ := hcut
    obtain ⟨m, hm⟩ : ∃ m, sgn n c0 c1 = m := ⟨_, rfl⟩
    have hc0 := HADD.out.1
    have hc1 := HADD.out.2.1
    clear HN
    go_upto_region 4 with fail
    go_cut [19] (fun s wx => ∃ gd : Nat, s = .pointer (some ⟨gd, 0, none⟩) ∧ HB w [(gd, 27, #[.bool m, .int .u64 c0, .int .u64 c1, .int .i64 t]), (w.heap.size + 1 + 1, 27, #[.bool false, .int .u64 0, .int .u64 0, .int .i64 0])] wx)
    case first =>
      have HBc := HB.bel W
      have BR := HB.blk (g := w.heap.size + 1 + 1) (t := 27) (cs := #[.bool false, .int .u64 0, .int .u64 0, .int .i64 0]) W (by simp)
      obtain ⟨lc, k0, k1⟩ := HB.two (t := 25) (g := gc) (a := .int .u64 c0) (b := .int .u64 c1) W (by simp)
      clear W
      cases n
      · obtain rfl : m = false := by rw [← hm]; simp [sgn]
        clear hm
        go_region
        all_goals
          go_wp2_with fail
          go_meet
        all_goals
          refine ⟨_, rfl, ?_, ?_⟩
          · repeat (first | (with_reducible exact HBc) | (with_reducible refine Below.drew ?_) | (with_reducible refine bel_alloc ?_ _))
          · intro b hb
            simp only [List.mem_cons, List.not_mem_nil, or_false] at hb
            rcases hb with rfl | rfl
            · dsimp only
              repeat (first | ((with_reducible refine Blk.new_at ?_); (simp; done)) | (with_reducible refine Blk.drew ?_) | (with_reducible refine Blk.alloc ?_ _))
            · dsimp only
              repeat (first | (with_reducible exact BR) | (with_reducible refine Blk.drew ?_) | (with_reducible refine Blk.alloc ?_ _))
      · obtain ⟨q, hq⟩ : ∃ q, eqW2 c0 c1 0 0 = q := ⟨_, rfl⟩
        obtain rfl : m = !q := by rw [← hm, ← hq]; simp [sgn]
        clear hm
        go_region_held3 (fun w' => w'.cell? ⟨gc, 0, none⟩ = some (.int .u64 c0) ∧ w'.cell? ⟨gc, 1, none⟩ = some (.int .u64 c1)) (first | exact ⟨k0, k1⟩ | (simp [go_sem, lc, k0, k1]; done) | (simp [go_sem, *]; done)) (first | (go_at_call 12; refine (of_x _ _).mono ?_; rintro e wx ⟨rfl, rfl⟩))
        all_goals
          go_wp2_with fail
          go_meet
        all_goals
          refine ⟨_, rfl, ?_, ?_⟩
          · repeat (first | (with_reducible exact HBc) | (with_reducible refine Below.drew ?_) | (with_reducible refine bel_alloc ?_ _))
          · intro b hb
            simp only [List.mem_cons, List.not_mem_nil, or_false] at hb
            rcases hb with rfl | rfl
            · dsimp only
              repeat (first | ((with_reducible refine Blk.new_at ?_); (simp; done)) | (with_reducible refine Blk.drew ?_) | (with_reducible refine Blk.alloc ?_ _))
            · dsimp only
              repeat (first | (with_reducible exact BR) | (with_reducible refine Blk.drew ?_) | (with_reducible refine Blk.alloc ?_ _))
    case rest =>
      clear W
      obtain ⟨gd, rfl, W⟩ := hcut
      obtain ⟨lg, g0, g1, g2, g3⟩ := HB.dec (t := 27) (g := gd) (a := .bool m) (b := .int .u64 c0) (c := .int .u64 c1) (d := .int .i64 t) W (by simp)
      cases p with
      | false =>
        obtain ⟨lq, y0, y1, y2, y3⟩ := HB.dec (t := 27) (g := w.heap.size + 1 + 1) (a := .bool false) (b := .int .u64 0) (c := .int .u64 0) (d := .int .i64 0) W (by simp)
        have Bz := HB.blk (g := w.heap.size + 1 + 1) (t := 27) (cs := #[.bool false, .int .u64 0, .int .u64 0, .int .i64 0]) W (by simp)
        have fz0 := Bz.frozen 0
        have fz1 := Bz.frozen 1
        have fz2 := Bz.frozen 2
        have fz3 := Bz.frozen 3
        clear Bz
        have HB1 := Lib.hid W.1
        clear W
        go_wp2
        exact bodyPost_ret (v := .tuple #[.agg #[.bool false, .int .u64 0, .int .u64 0, .int .i64 0], .int .i64 3]) (by simp [results, Tryd.results18, go_sem, y0, y1, y2, y3]) rfl ⟨_, ans_err 3, rfl, bel4 HB1.out hlg⟩
      | true =>
        cases pt with
        | false =>
          obtain ⟨lq, y0, y1, y2, y3⟩ := HB.dec (t := 27) (g := w.heap.size + 1 + 1) (a := .bool false) (b := .int .u64 0) (c := .int .u64 0) (d := .int .i64 0) W (by simp)
          have Bz := HB.blk (g := w.heap.size + 1 + 1) (t := 27) (cs := #[.bool false, .int .u64 0, .int .u64 0, .int .i64 0]) W (by simp)
          have fz0 := Bz.frozen 0
          have fz1 := Bz.frozen 1
          have fz2 := Bz.frozen 2
          have fz3 := Bz.frozen 3
          clear Bz
          have HB1 := Lib.hid W.1
          clear W
          go_wp2
          exact bodyPost_ret (v := .tuple #[.agg #[.bool false, .int .u64 0, .int .u64 0, .int .i64 0], .int .i64 3]) (by simp [results, Tryd.results18, go_sem, y0, y1, y2, y3]) rfl ⟨_, ans_err 3, rfl, bel4 HB1.out hlg⟩
        | true =>
          have HR := Lib.hid (show decide (RightD m c0 c1 t) = false from decide_eq_false (fun h => by have h1 := h.1; have h2 := HOV.out rfl rfl; omega))
          go_wp2_with fail
          refine (right_c m c0 c1 t _ hc0 hc1).mono ?_
          rintro e w6 ⟨_, rfl, rfl, hb⟩
          rw [HR.out]
          replace W := W.below hb
          clear hb lg g0 g1 g2 g3
          obtain ⟨lq, y0, y1, y2, y3⟩ := HB.dec (t := 27) (g := w.heap.size + 1 + 1) (a := .bool false) (b := .int .u64 0) (c := .int .u64 0) (d := .int .i64 0) W (by simp)
          have Bz := HB.blk (g := w.heap.size + 1 + 1) (t := 27) (cs := #[.bool false, .int .u64 0, .int .u64 0, .int .i64 0]) W (by simp)
          have fz0 := Bz.frozen 0
          have fz1 := Bz.frozen 1
          have fz2 := Bz.frozen 2
          have fz3 := Bz.frozen 3
          clear Bz
          have HB1 := Lib.hid W.1
          clear W
          go_wp2
          exact bodyPost_ret (v := .tuple #[.agg #[.bool false, .int .u64 0, .int .u64 0, .int .i64 0], .int .i64 3]) (by simp [results, Tryd.results18, go_sem, y0, y1, y2, y3]) rfl ⟨_, ans_err 3, rfl, bel4 HB1.out hlg⟩
end Go.Proofs.YtkaflkofffgndaaDoor

/- LabelSets. -/
import Derived.Test.YtpplledoankfgaaLabJ
namespace Go.Proofs.Ytpplledoankfgaa
open Go.RowKit
/-- Two labels. -/
def LS (w : World) (A B : Nat) (va vb : Int) (U : World) : Prop :=
  Blk U w.heap.size 25 #[.int .u64 (A : Int), .int .i64 va] ∧ Blk U (w.heap.size + 1) 25 #[.int .u64 (B : Int), .int .i64 vb] ∧ Below w.heap.size w U
section
variable {w U U' : World} {A B : Nat} {va vb : Int}
theorem LS.below (h : LS w A B va vb U) (hb : Below U.heap.size U U') : LS w A B va vb U' := ⟨h.1.below hb h.1.lt, h.2.1.below hb h.2.1.lt, bel_tr2 h.2.2 hb⟩
theorem LS.drew (h : LS w A B va vb U) : LS w A B va vb U.drew := ⟨h.1.drew, h.2.1.drew, h.2.2.drew⟩
theorem LS.cells (h : LS w A B va vb U) : Cel U w.heap.size A va ∧ Cel U (w.heap.size + 1) B vb := ⟨cel_of h.1, cel_of h.2.1⟩
end
/-- Are the first c of L all in M? Is x among the first d of M? -/
def inK (L M : List Nat) (c : Nat) : Bool := (L.take c).all fun x => M.contains x
def hasK (M : List Nat) (x d : Nat) : Bool := (M.take d).contains x
theorem hasK_next {M : List Nat} {x d : Nat} (h : d < M.length) : hasK M x (d + 1) = (hasK M x d || decide (M[d] = x)) := by
  unfold hasK
  rw [List.take_succ_eq_append_getElem h]
  simp only [List.contains_eq_mem, List.mem_append, List.mem_singleton, Bool.decide_or]
  congr 1
  exact decide_eq_decide.2 eq_comm
theorem hasK_all (M : List Nat) (x : Nat) : hasK M x M.length = M.contains x := by unfold hasK; rw [List.take_length]
theorem inK_next {L M : List Nat} {c : Nat} (h : c < L.length) : inK L M (c + 1) = (inK L M c && M.contains L[c]) := by
  unfold inK
  rw [List.take_succ_eq_append_getElem h, List.all_append]
  simp
theorem inK_below {a b : Nat} (ha : a < 256) (v u : Int) : (inK (memL a) (memL b) (memL a).length && decide (v ≤ u)) = belowB a v b u := by
  unfold belowB inK
  congr 1
  rw [List.take_length]
  have h := sub_256 (a := a) (b := b) ha
  cases e : (memL a).all fun x => (memL b).contains x
  · rw [eq_comm, decide_eq_false_iff_not]
    intro hh
    have := h.1 hh
    rw [List.all_eq_false] at e
    obtain ⟨x, hx, hn⟩ := e
    exact hn (by simpa using this x hx)
  · rw [eq_comm, decide_eq_true_eq]
    refine h.2 fun k hk => ?_
    have := List.all_eq_true.1 e k hk
    simpa using this
def OutRel (w : World) (A B : Nat) (va vb : Int) (L M : List Nat) (P : Option Addr) (i t : Value) (wr : World) : Prop :=
  ∃ c : Nat, c ≤ L.length ∧ i = .int .i64 c ∧ t = .bool (inK L M c) ∧ LS w A B va vb wr ∧ NsA wr P L
def InRel (W : World) (M : List Nat) (x : Nat) (i t : Value) (wr : World) : Prop :=
  ∃ d : Nat, d ≤ M.length ∧ i = .int .i64 d ∧ t = .bool (hasK M x d) ∧ wr = W
set_option maxRecDepth 100000 in
set_option maxHeartbeats 3200000 in
theorem labelSets_c (x0 x1 x2 x3 : Int) (w : World) : Calls Try.prog 7 #[.int .i64 x0, .int .i64 x1, .int .i64 x2, .int .i64 x3] w fun e w' => e = .returned (.bool true) ∧ Below w.heap.size w w' := by
  go_enter Try.func7, Try.ntmps7
  go_wp2_with fail
  (with_reducible refine (pickB x0 256 _ (by omega) (by omega)).mono ?_)
  rintro e w' ⟨A, hA, rfl, rfl⟩
  go_wp2_with fail
  (with_reducible refine (pickB x1 4 _ (by omega) (by omega)).mono ?_)
  rintro e w' ⟨va, hva, rfl, rfl⟩
  go_wp2_with fail
  (with_reducible refine (pickB x2 256 _ (by omega) (by omega)).mono ?_)
  rintro e w' ⟨B, hB, rfl, rfl⟩
  go_wp2_with fail
  (with_reducible refine (pickB x3 4 _ (by omega) (by omega)).mono ?_)
  rintro e w' ⟨vb, hvb, rfl, rfl⟩
  have hA8 : A < 256 := by omega
  have hB8 : B < 256 := by omega
  have hK0 : LS w A B va vb ((w.alloc (.cells #[.int .u64 (A : Int), .int .i64 (va : Int)] 25)).alloc (.cells #[.int .u64 (B : Int), .int .i64 (vb : Int)] 25)) :=
    ⟨(Blk.new w 25 #[.int .u64 (A : Int), .int .i64 (va : Int)]).alloc _, by have := Blk.new (w.alloc (.cells #[.int .u64 (A : Int), .int .i64 (va : Int)] 25)) 25 #[.int .u64 (B : Int), .int .i64 (vb : Int)]; simpa using this, bel_alloc (bel_alloc (Below.refl _ _) _) _⟩
  have HFB := Lib.hid (inK_below (a := A) (b := B) hA8 (va : Int) (vb : Int))
  have HLEN := Lib.hid (len_two A B 8)
  obtain ⟨L, hL⟩ : ∃ L, memL A = L := ⟨_, rfl⟩
  obtain ⟨M, hM⟩ : ∃ M, memL B = M := ⟨_, rfl⟩
  have HML := Lib.hid (fun v w' => members_v A (A : Int) v L L.length w' rfl (by omega) hL rfl)
  have HMM := Lib.hid (fun v w' => members_v B (B : Int) v M M.length w' rfl (by omega) hM rfl)
  have HLA := Lib.hid (show (memL A).length = L.length by rw [hL])
  have HLB := Lib.hid (show (memL B).length = M.length by rw [hM])
  have hl8 := memL_le A
  have hm8 := memL_le B
  rw [hL] at hl8 HFB
  rw [hM] at hm8 HFB
  clear hL hM
  obtain ⟨⟨a0, a1⟩, ⟨b0, b1⟩⟩ := hK0.cells
  have HK := Lib.hid hK0
  clear hK0
  go_wp2_with fail
  (with_reducible refine (HML.out _ _).mono ?_)
  rintro e w1 ⟨P, c1, rfl, hP, hb⟩
  have HK1 := Lib.hid (HK.out.below hb)
  have HP1 := Lib.hid hP
  clear hP hb HK a0 a1 b0 b1
  go_wp2
  go_loopw [34, 11] (fun i t wr => OutRel w A B va vb L M P i t wr) (fun i _ _ => 8 - (intOf i).toNat)
  case atStart => exact ⟨0, by omega, rfl, rfl, HK1.out, HP1.out⟩
  case round =>
    obtain ⟨c, hc, rfl, rfl, hk, hP⟩ := hrel
    clear HK1 HP1
    have HK := Lib.hid hk
    have HP := Lib.hid hP
    clear hk hP
    by_cases hlt : c < L.length
    · have hlt' : (c : Int) < (L.length : Int) := by omega
      obtain ⟨g, rfl, hg, hcell⟩ := HP.out.lt c hlt
      have HN := Lib.hid (inK_next (M := M) hlt)
      obtain ⟨x, hx⟩ : ∃ x, L[c] = x := ⟨_, rfl⟩
      rw [hx] at hcell HN
      clear hx
      obtain ⟨⟨a0, a1⟩, ⟨b0, b1⟩⟩ := HK.out.cells
      obtain ⟨β, hβ⟩ : ∃ β, inK L M c = β := ⟨_, rfl⟩
      rw [hβ] at HN ⊢
      clear hβ
      go_wp2_with fail
      (with_reducible refine (HMM.out _ _).mono ?_)
      rintro e w2 ⟨R, c2, rfl, hR, hb⟩
      have HK2 := Lib.hid (HK.out.below hb)
      have HP2 := Lib.hid (HP.out.below hb)
      have HR2 := Lib.hid hR
      clear hR hb a0 a1 b0 b1 hcell
      go_wp2
      go_loopw [41, 14] (fun i t wr => InRel w2 M x i t wr) (fun i _ _ => 8 - (intOf i).toNat)
      case atStart => exact ⟨0, by omega, rfl, rfl, rfl⟩
      case round =>
        obtain ⟨d, hd, rfl, rfl, rfl⟩ := hrel
        by_cases hlt2 : d < M.length
        · have hlt2' : (d : Int) < (M.length : Int) := by omega
          obtain ⟨h, rfl, hh, hcell⟩ := HR2.out.lt d hlt2
          have HN2 := Lib.hid (hasK_next (x := x) hlt2)
          obtain ⟨y, hy⟩ : ∃ y, M[d] = y := ⟨_, rfl⟩
          rw [hy] at hcell HN2
          clear hy
          obtain ⟨γ, hγ⟩ : ∃ γ, hasK M x d = γ := ⟨_, rfl⟩
          rw [hγ] at HN2 ⊢
          clear hγ
          cases γ with
          | true =>
            go_wp2
            clear hcell
            go_roundw
            case rel => exact ⟨d + 1, by omega, by go_num, by rw [HN2.out]; rfl, rfl⟩
            case measure => simp [intOf]; omega
          | false =>
            by_cases hxy : y = x
            · subst hxy
              go_wp2
              clear hcell
              go_roundw
              case rel => exact ⟨d + 1, by omega, by go_num, by rw [HN2.out]; simp, rfl⟩
              case measure => simp [intOf]; omega
            · have hxy2 : ¬ (y : Int) = (x : Int) := by omega
              have hxy3 : ((y : Int) == (x : Int)) = false := by simpa using hxy2
              go_wp2
              clear hcell
              go_roundw
              case rel => exact ⟨d + 1, by omega, by go_num, by rw [HN2.out, decide_eq_false hxy]; simp, rfl⟩
              case measure => simp [intOf]; omega
        · obtain rfl : d = M.length := by omega
          have HH := Lib.hid (hasK_all M x)
          rw [HH.out]
          obtain ⟨γ, hγ⟩ : ∃ γ, M.contains x = γ := ⟨_, rfl⟩
          rw [hγ] at HN ⊢
          clear hγ HH
          have hlt2' : ¬ (M.length : Int) < (M.length : Int) := by omega
          cases β with
          | true =>
            go_wp2
            go_roundw
            case rel => exact ⟨c + 1, by omega, by go_num, by rw [HN.out]; rfl, HK2.out, HP2.out⟩
            case measure => simp [intOf]; omega
          | false =>
            go_wp2
            go_roundw
            case rel => exact ⟨c + 1, by omega, by go_num, by rw [HN.out]; rfl, HK2.out, HP2.out⟩
            case measure => simp [intOf]; omega
    · obtain rfl : c = L.length := by omega
      have hlt' : ¬ (L.length : Int) < (L.length : Int) := by omega
      have hI8 := and_256 B hA8
      have hJ8 := or_256 hA8 hB8
      have HJO := Lib.hid (fun w' => join_q A B (A ||| B) (va : Int) (vb : Int) (max (va : Int) vb) w' hA8 hB8 rfl rfl)
      have HME := Lib.hid (fun w' => meet_q A B (A &&& B) (va : Int) (vb : Int) (min (va : Int) vb) w' hA8 hB8 rfl rfl)
      obtain ⟨J, hJ⟩ : ∃ J, A ||| B = J := ⟨_, rfl⟩
      obtain ⟨I, hI⟩ : ∃ I, A &&& B = I := ⟨_, rfl⟩
      obtain ⟨mj, hmj⟩ : ∃ mj, max (va : Int) (vb : Int) = mj := ⟨_, rfl⟩
      obtain ⟨mi, hmi⟩ : ∃ mi, min (va : Int) (vb : Int) = mi := ⟨_, rfl⟩
      rw [hJ, hmj] at HJO
      rw [hI, hmi] at HME
      rw [hI, hJ] at HLEN
      rw [hJ] at hJ8
      rw [hI] at hI8
      clear hJ hI hmj hmi
      obtain ⟨LJ, hLJ⟩ : ∃ L, memL J = L := ⟨_, rfl⟩
      obtain ⟨LI, hLI⟩ : ∃ L, memL I = L := ⟨_, rfl⟩
      have HMJ := Lib.hid (fun v w' => members_v J (J : Int) v LJ LJ.length w' rfl (by omega) hLJ rfl)
      have HMI := Lib.hid (fun v w' => members_v I (I : Int) v LI LI.length w' rfl (by omega) hLI rfl)
      have hj8 := memL_le J
      have hi8 := memL_le I
      have hlen := HLEN.out
      change (memL I).length + (memL J).length = (memL A).length + (memL B).length at hlen
      rw [hLJ] at hj8 hlen
      rw [hLI] at hi8 hlen
      rw [HLA.out, HLB.out] at hlen
      clear hLJ hLI HLEN
      obtain ⟨li, hli⟩ : ∃ n, LI.length = n := ⟨_, rfl⟩
      obtain ⟨lj, hlj⟩ : ∃ n, LJ.length = n := ⟨_, rfl⟩
      rw [hli] at HMI hi8 hlen
      rw [hlj] at HMJ hj8 hlen
      have HLEN := Lib.hid (show (li : Int) + (lj : Int) = (L.length : Int) + (M.length : Int) by omega)
      clear hlen hli hlj
      have HPB := Lib.hid (fun q w' h => below_q A B (va : Int) (vb : Int) q w' hA8 hB8 h)
      obtain ⟨β, hβ⟩ : ∃ β, inK L M L.length = β := ⟨_, rfl⟩
      rw [hβ] at HFB ⊢
      clear hβ
      obtain ⟨⟨a0, a1⟩, ⟨b0, b1⟩⟩ := HK.out.cells
      go_wp2_with fail
      (with_reducible refine (HME.out _).mono ?_)
      rintro e w2 ⟨rfl, hb⟩
      have HK2 := Lib.hid (HK.out.below hb)
      clear hb HK HP a0 a1 b0 b1
      go_wp2_with fail
      (with_reducible refine (HMI.out _ _).mono ?_)
      rintro e w3 ⟨Q1, q1, rfl, _, hb⟩
      have HK3 := Lib.hid (HK2.out.below hb)
      clear hb HK2
      obtain ⟨⟨a0, a1⟩, ⟨b0, b1⟩⟩ := HK3.out.cells
      go_wp2_with fail
      (with_reducible refine (HJO.out _).mono ?_)
      rintro e w4 ⟨rfl, hb⟩
      have HK4 := Lib.hid (HK3.out.below hb)
      clear hb HK3 a0 a1 b0 b1
      go_wp2_with fail
      (with_reducible refine (HMJ.out _ _).mono ?_)
      rintro e w5 ⟨Q2, q2, rfl, _, hb⟩
      have HK5 := Lib.hid (HK4.out.below hb)
      clear hb HK4
      go_wp2_with fail
      have HKd := Lib.hid HK5.out.drew
      cases β with
      | false =>
        have HQ := Lib.hid (show belowB A va B vb = false from HFB.out.symm)
        refine wp_region_ord (S := fun U => LS w A B va vb U) (by kernel_rfl) ?_
        refine ord_call (f := 10) (args := #[]) (w1 := w5.drew) (i := 0) (fuel := 30) (by simp; rfl) (by kernel_rfl) (by rfl) ?_ ?_
        · go_simp
          all_goals with_reducible rfl
        (with_reducible refine (known8_c _).mono ?_)
        rintro e w6 ⟨rfl, hb⟩
        have HK6 := Lib.hid (HKd.out.below hb)
        clear hb
        refine ⟨_, rfl, HK6.out, ?_⟩
        simp only [Act.put, List.setIfInBounds_toArray, List.set_cons_zero, List.set_cons_succ]
        refine ord_take (v := ?_) (i := 1) (fuel := 29) (by simp; rfl) (by kernel_rfl) (by kernel_rfl) (by kernel_rfl) (Or.inl ⟨by rfl, fun w' hSw => ?_⟩) HK6.out ?_
        rotate_left
        · go_simp
          all_goals with_reducible rfl
        simp only [Act.put, List.setIfInBounds_toArray, List.set_cons_zero, List.set_cons_succ]
        refine ord_take (v := ?_) (i := 2) (fuel := 28) (by simp; rfl) (by kernel_rfl) (by kernel_rfl) (by kernel_rfl) (Or.inl ⟨by rfl, fun w' hSw => ?_⟩) HK6.out ?_
        rotate_left
        · obtain ⟨⟨a0, a1⟩, ⟨b0, b1⟩⟩ := hSw.cells
          go_simp
          all_goals with_reducible rfl
        simp only [Act.put, List.setIfInBounds_toArray, List.set_cons_zero, List.set_cons_succ]
        refine ord_take (v := ?_) (i := 3) (fuel := 27) (by simp; rfl) (by kernel_rfl) (by kernel_rfl) (by kernel_rfl) (Or.inl ⟨by rfl, fun w' hSw => ?_⟩) HK6.out ?_
        rotate_left
        · obtain ⟨⟨a0, a1⟩, ⟨b0, b1⟩⟩ := hSw.cells
          go_simp
          all_goals with_reducible rfl
        simp only [Act.put, List.setIfInBounds_toArray, List.set_cons_zero, List.set_cons_succ]
        refine ord_take (v := ?_) (i := 5) (fuel := 26) (by simp; rfl) (by kernel_rfl) (by kernel_rfl) (by kernel_rfl) (Or.inl ⟨by rfl, fun w' hSw => ?_⟩) HK6.out ?_
        rotate_left
        · go_simp
          all_goals with_reducible rfl
        simp only [Act.put, List.setIfInBounds_toArray, List.set_cons_zero, List.set_cons_succ]
        refine ord_call (f := 13) (args := #[.agg #[.int .u64 (A : Int), .int .i64 (va : Int)], .agg #[.int .u64 (B : Int), .int .i64 (vb : Int)]]) (w1 := w6) (i := 4) (fuel := 25) (by simp; rfl) (by kernel_rfl) (by rfl) ?_ ?_
        · go_simp
          all_goals with_reducible rfl
        (with_reducible refine (HPB.out false _ HQ.out).mono ?_)
        rintro e w7 ⟨rfl, hb⟩
        have HK7 := Lib.hid (HK6.out.below hb)
        clear hb
        refine ⟨_, rfl, HK7.out, ?_⟩
        simp only [Act.put, List.setIfInBounds_toArray, List.set_cons_zero, List.set_cons_succ]
        refine ord_take (v := ?_) (i := 6) (fuel := 24) (by simp; rfl) (by kernel_rfl) (by kernel_rfl) (by kernel_rfl) (Or.inl ⟨by rfl, fun w' hSw => ?_⟩) HK7.out ?_
        rotate_left
        · go_simp
          all_goals with_reducible rfl
        simp only [Act.put, List.setIfInBounds_toArray, List.set_cons_zero, List.set_cons_succ]
        refine ord_take (v := undef) (i := 7) (fuel := 23) (by simp; rfl) (by kernel_rfl) (by kernel_rfl) (by kernel_rfl) (Or.inr ⟨by rfl, rfl⟩) HK7.out ?_
        simp only [Act.put, List.setIfInBounds_toArray, List.set_cons_zero, List.set_cons_succ]
        refine ord_take (v := undef) (i := 8) (fuel := 22) (by simp; rfl) (by kernel_rfl) (by kernel_rfl) (by kernel_rfl) (Or.inr ⟨by rfl, rfl⟩) HK7.out ?_
        simp only [Act.put, List.setIfInBounds_toArray, List.set_cons_zero, List.set_cons_succ]
        refine ord_take (v := undef) (i := 9) (fuel := 21) (by simp; rfl) (by kernel_rfl) (by kernel_rfl) (by kernel_rfl) (Or.inr ⟨by rfl, rfl⟩) HK7.out ?_
        simp only [Act.put, List.setIfInBounds_toArray, List.set_cons_zero, List.set_cons_succ]
        refine ord_take (v := undef) (i := 10) (fuel := 20) (by simp; rfl) (by kernel_rfl) (by kernel_rfl) (by kernel_rfl) (Or.inr ⟨by rfl, rfl⟩) HK7.out ?_
        simp only [Act.put, List.setIfInBounds_toArray, List.set_cons_zero, List.set_cons_succ]
        refine ord_take (v := undef) (i := 11) (fuel := 19) (by simp; rfl) (by kernel_rfl) (by kernel_rfl) (by kernel_rfl) (Or.inr ⟨by rfl, rfl⟩) HK7.out ?_
        simp only [Act.put, List.setIfInBounds_toArray, List.set_cons_zero, List.set_cons_succ]
        refine ord_take (v := ?_) (i := 12) (fuel := 18) (by simp; rfl) (by kernel_rfl) (by kernel_rfl) (by kernel_rfl) (Or.inl ⟨by rfl, fun w' hSw => ?_⟩) HK7.out ?_
        rotate_left
        · go_simp
          all_goals with_reducible rfl
        simp only [Act.put, List.setIfInBounds_toArray, List.set_cons_zero, List.set_cons_succ]
        refine ord_take (v := ?_) (i := 13) (fuel := 17) (by simp; rfl) (by kernel_rfl) (by kernel_rfl) (by kernel_rfl) (Or.inl ⟨by rfl, fun w' hSw => ?_⟩) HK7.out ?_
        rotate_left
        · go_simp
          all_goals with_reducible rfl
        simp only [Act.put, List.setIfInBounds_toArray, List.set_cons_zero, List.set_cons_succ]
        refine ord_take (v := ?_) (i := 14) (fuel := 16) (by simp; rfl) (by kernel_rfl) (by kernel_rfl) (by kernel_rfl) (Or.inl ⟨by rfl, fun w' hSw => ?_⟩) HK7.out ?_
        rotate_left
        · go_simp
          all_goals with_reducible rfl
        simp only [Act.put, List.setIfInBounds_toArray, List.set_cons_zero, List.set_cons_succ]
        refine ord_take (v := ?_) (i := 15) (fuel := 15) (by simp; rfl) (by kernel_rfl) (by kernel_rfl) (by kernel_rfl) (Or.inl ⟨by rfl, fun w' hSw => ?_⟩) HK7.out ?_
        rotate_left
        · go_simp
          all_goals with_reducible rfl
        simp only [Act.put, List.setIfInBounds_toArray, List.set_cons_zero, List.set_cons_succ]
        refine ord_take (v := ?_) (i := 16) (fuel := 14) (by simp; rfl) (by kernel_rfl) (by kernel_rfl) (by kernel_rfl) (Or.inl ⟨by rfl, fun w' hSw => ?_⟩) HK7.out ?_
        rotate_left
        · go_simp
          all_goals with_reducible rfl
        simp only [Act.put, List.setIfInBounds_toArray, List.set_cons_zero, List.set_cons_succ]
        refine ord_take (v := ?_) (i := 17) (fuel := 13) (by simp; rfl) (by kernel_rfl) (by kernel_rfl) (by kernel_rfl) (Or.inl ⟨by rfl, fun w' hSw => ?_⟩) HK7.out ?_
        rotate_left
        · go_simp
          all_goals with_reducible rfl
        simp only [Act.put, List.setIfInBounds_toArray, List.set_cons_zero, List.set_cons_succ]
        refine ord_take (v := ?_) (i := 18) (fuel := 12) (by simp; rfl) (by kernel_rfl) (by kernel_rfl) (by kernel_rfl) (Or.inl ⟨by rfl, fun w' hSw => ?_⟩) HK7.out ?_
        rotate_left
        · go_simp
          all_goals with_reducible rfl
        simp only [Act.put, List.setIfInBounds_toArray, List.set_cons_zero, List.set_cons_succ]
        refine ord_take (v := ?_) (i := 19) (fuel := 11) (by simp; rfl) (by kernel_rfl) (by kernel_rfl) (by kernel_rfl) (Or.inl ⟨by rfl, fun w' hSw => ?_⟩) HK7.out ?_
        rotate_left
        · go_simp
          all_goals with_reducible rfl
        simp only [Act.put, List.setIfInBounds_toArray, List.set_cons_zero, List.set_cons_succ]
        refine ord_take (v := ?_) (i := 20) (fuel := 10) (by simp; rfl) (by kernel_rfl) (by kernel_rfl) (by kernel_rfl) (Or.inl ⟨by rfl, fun w' hSw => ?_⟩) HK7.out ?_
        rotate_left
        · go_simp
          all_goals with_reducible rfl
        simp only [Act.put, List.setIfInBounds_toArray, List.set_cons_zero, List.set_cons_succ]
        refine ord_take (v := ?_) (i := 21) (fuel := 9) (by simp; rfl) (by kernel_rfl) (by kernel_rfl) (by kernel_rfl) (Or.inl ⟨by rfl, fun w' hSw => ?_⟩) HK7.out ?_
        rotate_left
        · obtain ⟨⟨a0, a1⟩, ⟨b0, b1⟩⟩ := hSw.cells
          go_simp
          all_goals with_reducible rfl
        simp only [Act.put, List.setIfInBounds_toArray, List.set_cons_zero, List.set_cons_succ]
        refine ord_take (v := ?_) (i := 24) (fuel := 8) (by simp; rfl) (by kernel_rfl) (by kernel_rfl) (by kernel_rfl) (Or.inl ⟨by rfl, fun w' hSw => ?_⟩) HK7.out ?_
        rotate_left
        · obtain ⟨⟨a0, a1⟩, ⟨b0, b1⟩⟩ := hSw.cells
          go_simp
          all_goals with_reducible rfl
        simp only [Act.put, List.setIfInBounds_toArray, List.set_cons_zero, List.set_cons_succ]
        refine ord_call (f := 9) (args := #[.agg #[.int .u64 (A : Int), .int .i64 (va : Int)]]) (w1 := w7) (i := 22) (fuel := 7) (by simp; rfl) (by kernel_rfl) (by rfl) ?_ ?_
        · go_simp
          all_goals with_reducible rfl
        (with_reducible refine (HML.out _ _).mono ?_)
        rintro e w8 ⟨Q3, q3, rfl, _, hb⟩
        have HK8 := Lib.hid (HK7.out.below hb)
        clear hb
        refine ⟨_, rfl, HK8.out, ?_⟩
        simp only [Act.put, List.setIfInBounds_toArray, List.set_cons_zero, List.set_cons_succ]
        refine ord_take (v := ?_) (i := 23) (fuel := 6) (by simp; rfl) (by kernel_rfl) (by kernel_rfl) (by kernel_rfl) (Or.inl ⟨by rfl, fun w' hSw => ?_⟩) HK8.out ?_
        rotate_left
        · go_simp
          all_goals with_reducible rfl
        simp only [Act.put, List.setIfInBounds_toArray, List.set_cons_zero, List.set_cons_succ]
        refine ord_call (f := 9) (args := #[.agg #[.int .u64 (B : Int), .int .i64 (vb : Int)]]) (w1 := w8) (i := 25) (fuel := 5) (by simp; rfl) (by kernel_rfl) (by rfl) ?_ ?_
        · go_simp
          all_goals with_reducible rfl
        (with_reducible refine (HMM.out _ _).mono ?_)
        rintro e w9 ⟨Q4, q4, rfl, _, hb⟩
        have HK9 := Lib.hid (HK8.out.below hb)
        clear hb
        refine ⟨_, rfl, HK9.out, ?_⟩
        simp only [Act.put, List.setIfInBounds_toArray, List.set_cons_zero, List.set_cons_succ]
        refine ord_take (v := ?_) (i := 26) (fuel := 4) (by simp; rfl) (by kernel_rfl) (by kernel_rfl) (by kernel_rfl) (Or.inl ⟨by rfl, fun w' hSw => ?_⟩) HK9.out ?_
        rotate_left
        · go_simp
          all_goals with_reducible rfl
        simp only [Act.put, List.setIfInBounds_toArray, List.set_cons_zero, List.set_cons_succ]
        refine ord_take (v := ?_) (i := 27) (fuel := 3) (by simp; rfl) (by kernel_rfl) (by kernel_rfl) (by kernel_rfl) (Or.inl ⟨by rfl, fun w' hSw => ?_⟩) HK9.out ?_
        rotate_left
        · go_simp
          all_goals with_reducible rfl
        simp only [Act.put, List.setIfInBounds_toArray, List.set_cons_zero, List.set_cons_succ]
        refine ord_take (v := ?_) (i := 28) (fuel := 2) (by simp; rfl) (by kernel_rfl) (by kernel_rfl) (by kernel_rfl) (Or.inl ⟨by rfl, fun w' hSw => ?_⟩) HK9.out ?_
        rotate_left
        · have he := HLEN.out
          go_simp
          all_goals with_reducible rfl
        simp only [Act.put, List.setIfInBounds_toArray, List.set_cons_zero, List.set_cons_succ]
        refine ord_take (v := ?_) (i := 29) (fuel := 1) (by simp; rfl) (by kernel_rfl) (by kernel_rfl) (by kernel_rfl) (Or.inl ⟨by rfl, fun w' hSw => ?_⟩) HK9.out ?_
        rotate_left
        · go_simp
          all_goals with_reducible rfl
        simp only [Act.put, List.setIfInBounds_toArray, List.set_cons_zero, List.set_cons_succ]
        refine ord_take (v := ?_) (i := 30) (fuel := 0) (by simp; rfl) (by kernel_rfl) (by kernel_rfl) (by kernel_rfl) (Or.inl ⟨by rfl, fun w' hSw => ?_⟩) HK9.out ?_
        rotate_left
        · go_simp
          all_goals with_reducible rfl
        simp only [Act.put, List.setIfInBounds_toArray, List.set_cons_zero, List.set_cons_succ]
        refine ord_done (by kernel_rfl) ?_ _
        go_wp2
        go_ret
        exact ⟨rfl, HK9.out.2.2⟩
      | true =>
        by_cases hle : (va : Int) ≤ (vb : Int)
        · have HQ := Lib.hid (show belowB A va B vb = true by rw [← HFB.out, decide_eq_true hle]; rfl)
          have hle2 : decide ((va : Int) ≤ (vb : Int)) = true := decide_eq_true hle
          refine wp_region_ord (S := fun U => LS w A B va vb U) (by kernel_rfl) ?_
          refine ord_call (f := 10) (args := #[]) (w1 := w5.drew) (i := 0) (fuel := 30) (by simp; rfl) (by kernel_rfl) (by rfl) ?_ ?_
          · go_simp
            all_goals with_reducible rfl
          (with_reducible refine (known8_c _).mono ?_)
          rintro e w6 ⟨rfl, hb⟩
          have HK6 := Lib.hid (HKd.out.below hb)
          clear hb
          refine ⟨_, rfl, HK6.out, ?_⟩
          simp only [Act.put, List.setIfInBounds_toArray, List.set_cons_zero, List.set_cons_succ]
          refine ord_take (v := ?_) (i := 1) (fuel := 29) (by simp; rfl) (by kernel_rfl) (by kernel_rfl) (by kernel_rfl) (Or.inl ⟨by rfl, fun w' hSw => ?_⟩) HK6.out ?_
          rotate_left
          · go_simp
            all_goals with_reducible rfl
          simp only [Act.put, List.setIfInBounds_toArray, List.set_cons_zero, List.set_cons_succ]
          refine ord_take (v := ?_) (i := 2) (fuel := 28) (by simp; rfl) (by kernel_rfl) (by kernel_rfl) (by kernel_rfl) (Or.inl ⟨by rfl, fun w' hSw => ?_⟩) HK6.out ?_
          rotate_left
          · obtain ⟨⟨a0, a1⟩, ⟨b0, b1⟩⟩ := hSw.cells
            go_simp
            all_goals with_reducible rfl
          simp only [Act.put, List.setIfInBounds_toArray, List.set_cons_zero, List.set_cons_succ]
          refine ord_take (v := ?_) (i := 3) (fuel := 27) (by simp; rfl) (by kernel_rfl) (by kernel_rfl) (by kernel_rfl) (Or.inl ⟨by rfl, fun w' hSw => ?_⟩) HK6.out ?_
          rotate_left
          · obtain ⟨⟨a0, a1⟩, ⟨b0, b1⟩⟩ := hSw.cells
            go_simp
            all_goals with_reducible rfl
          simp only [Act.put, List.setIfInBounds_toArray, List.set_cons_zero, List.set_cons_succ]
          refine ord_take (v := ?_) (i := 5) (fuel := 26) (by simp; rfl) (by kernel_rfl) (by kernel_rfl) (by kernel_rfl) (Or.inl ⟨by rfl, fun w' hSw => ?_⟩) HK6.out ?_
          rotate_left
          · go_simp
            all_goals with_reducible rfl
          simp only [Act.put, List.setIfInBounds_toArray, List.set_cons_zero, List.set_cons_succ]
          refine ord_call (f := 13) (args := #[.agg #[.int .u64 (A : Int), .int .i64 (va : Int)], .agg #[.int .u64 (B : Int), .int .i64 (vb : Int)]]) (w1 := w6) (i := 4) (fuel := 25) (by simp; rfl) (by kernel_rfl) (by rfl) ?_ ?_
          · go_simp
            all_goals with_reducible rfl
          (with_reducible refine (HPB.out true _ HQ.out).mono ?_)
          rintro e w7 ⟨rfl, hb⟩
          have HK7 := Lib.hid (HK6.out.below hb)
          clear hb
          refine ⟨_, rfl, HK7.out, ?_⟩
          simp only [Act.put, List.setIfInBounds_toArray, List.set_cons_zero, List.set_cons_succ]
          refine ord_take (v := ?_) (i := 6) (fuel := 24) (by simp; rfl) (by kernel_rfl) (by kernel_rfl) (by kernel_rfl) (Or.inl ⟨by rfl, fun w' hSw => ?_⟩) HK7.out ?_
          rotate_left
          · go_simp
            all_goals with_reducible rfl
          simp only [Act.put, List.setIfInBounds_toArray, List.set_cons_zero, List.set_cons_succ]
          refine ord_take (v := ?_) (i := 7) (fuel := 23) (by simp; rfl) (by kernel_rfl) (by kernel_rfl) (by kernel_rfl) (Or.inl ⟨by rfl, fun w' hSw => ?_⟩) HK7.out ?_
          rotate_left
          · go_simp
            all_goals with_reducible rfl
          simp only [Act.put, List.setIfInBounds_toArray, List.set_cons_zero, List.set_cons_succ]
          refine ord_take (v := ?_) (i := 9) (fuel := 22) (by simp; rfl) (by kernel_rfl) (by kernel_rfl) (by kernel_rfl) (Or.inl ⟨by rfl, fun w' hSw => ?_⟩) HK7.out ?_
          rotate_left
          · go_simp
            all_goals with_reducible rfl
          simp only [Act.put, List.setIfInBounds_toArray, List.set_cons_zero, List.set_cons_succ]
          refine ord_take (v := ?_) (i := 8) (fuel := 21) (by simp; rfl) (by kernel_rfl) (by kernel_rfl) (by kernel_rfl) (Or.inl ⟨by rfl, fun w' hSw => ?_⟩) HK7.out ?_
          rotate_left
          · obtain ⟨⟨a0, a1⟩, ⟨b0, b1⟩⟩ := hSw.cells
            go_simp
            all_goals with_reducible rfl
          simp only [Act.put, List.setIfInBounds_toArray, List.set_cons_zero, List.set_cons_succ]
          refine ord_take (v := ?_) (i := 10) (fuel := 20) (by simp; rfl) (by kernel_rfl) (by kernel_rfl) (by kernel_rfl) (Or.inl ⟨by rfl, fun w' hSw => ?_⟩) HK7.out ?_
          rotate_left
          · obtain ⟨⟨a0, a1⟩, ⟨b0, b1⟩⟩ := hSw.cells
            go_simp
            all_goals with_reducible rfl
          simp only [Act.put, List.setIfInBounds_toArray, List.set_cons_zero, List.set_cons_succ]
          refine ord_take (v := ?_) (i := 11) (fuel := 19) (by simp; rfl) (by kernel_rfl) (by kernel_rfl) (by kernel_rfl) (Or.inl ⟨by rfl, fun w' hSw => ?_⟩) HK7.out ?_
          rotate_left
          · go_simp
            all_goals with_reducible rfl
          simp only [Act.put, List.setIfInBounds_toArray, List.set_cons_zero, List.set_cons_succ]
          refine ord_take (v := ?_) (i := 12) (fuel := 18) (by simp; rfl) (by kernel_rfl) (by kernel_rfl) (by kernel_rfl) (Or.inl ⟨by rfl, fun w' hSw => ?_⟩) HK7.out ?_
          rotate_left
          · go_simp
            all_goals with_reducible rfl
          simp only [Act.put, List.setIfInBounds_toArray, List.set_cons_zero, List.set_cons_succ]
          refine ord_take (v := ?_) (i := 13) (fuel := 17) (by simp; rfl) (by kernel_rfl) (by kernel_rfl) (by kernel_rfl) (Or.inl ⟨by rfl, fun w' hSw => ?_⟩) HK7.out ?_
          rotate_left
          · go_simp
            all_goals with_reducible rfl
          simp only [Act.put, List.setIfInBounds_toArray, List.set_cons_zero, List.set_cons_succ]
          refine ord_take (v := ?_) (i := 14) (fuel := 16) (by simp; rfl) (by kernel_rfl) (by kernel_rfl) (by kernel_rfl) (Or.inl ⟨by rfl, fun w' hSw => ?_⟩) HK7.out ?_
          rotate_left
          · go_simp
            all_goals with_reducible rfl
          simp only [Act.put, List.setIfInBounds_toArray, List.set_cons_zero, List.set_cons_succ]
          refine ord_take (v := ?_) (i := 15) (fuel := 15) (by simp; rfl) (by kernel_rfl) (by kernel_rfl) (by kernel_rfl) (Or.inl ⟨by rfl, fun w' hSw => ?_⟩) HK7.out ?_
          rotate_left
          · go_simp
            all_goals with_reducible rfl
          simp only [Act.put, List.setIfInBounds_toArray, List.set_cons_zero, List.set_cons_succ]
          refine ord_take (v := ?_) (i := 16) (fuel := 14) (by simp; rfl) (by kernel_rfl) (by kernel_rfl) (by kernel_rfl) (Or.inl ⟨by rfl, fun w' hSw => ?_⟩) HK7.out ?_
          rotate_left
          · go_simp
            all_goals with_reducible rfl
          simp only [Act.put, List.setIfInBounds_toArray, List.set_cons_zero, List.set_cons_succ]
          refine ord_take (v := ?_) (i := 17) (fuel := 13) (by simp; rfl) (by kernel_rfl) (by kernel_rfl) (by kernel_rfl) (Or.inl ⟨by rfl, fun w' hSw => ?_⟩) HK7.out ?_
          rotate_left
          · go_simp
            all_goals with_reducible rfl
          simp only [Act.put, List.setIfInBounds_toArray, List.set_cons_zero, List.set_cons_succ]
          refine ord_take (v := ?_) (i := 18) (fuel := 12) (by simp; rfl) (by kernel_rfl) (by kernel_rfl) (by kernel_rfl) (Or.inl ⟨by rfl, fun w' hSw => ?_⟩) HK7.out ?_
          rotate_left
          · go_simp
            all_goals with_reducible rfl
          simp only [Act.put, List.setIfInBounds_toArray, List.set_cons_zero, List.set_cons_succ]
          refine ord_take (v := ?_) (i := 19) (fuel := 11) (by simp; rfl) (by kernel_rfl) (by kernel_rfl) (by kernel_rfl) (Or.inl ⟨by rfl, fun w' hSw => ?_⟩) HK7.out ?_
          rotate_left
          · go_simp
            all_goals with_reducible rfl
          simp only [Act.put, List.setIfInBounds_toArray, List.set_cons_zero, List.set_cons_succ]
          refine ord_take (v := ?_) (i := 20) (fuel := 10) (by simp; rfl) (by kernel_rfl) (by kernel_rfl) (by kernel_rfl) (Or.inl ⟨by rfl, fun w' hSw => ?_⟩) HK7.out ?_
          rotate_left
          · go_simp
            all_goals with_reducible rfl
          simp only [Act.put, List.setIfInBounds_toArray, List.set_cons_zero, List.set_cons_succ]
          refine ord_take (v := ?_) (i := 21) (fuel := 9) (by simp; rfl) (by kernel_rfl) (by kernel_rfl) (by kernel_rfl) (Or.inl ⟨by rfl, fun w' hSw => ?_⟩) HK7.out ?_
          rotate_left
          · obtain ⟨⟨a0, a1⟩, ⟨b0, b1⟩⟩ := hSw.cells
            go_simp
            all_goals with_reducible rfl
          simp only [Act.put, List.setIfInBounds_toArray, List.set_cons_zero, List.set_cons_succ]
          refine ord_take (v := ?_) (i := 24) (fuel := 8) (by simp; rfl) (by kernel_rfl) (by kernel_rfl) (by kernel_rfl) (Or.inl ⟨by rfl, fun w' hSw => ?_⟩) HK7.out ?_
          rotate_left
          · obtain ⟨⟨a0, a1⟩, ⟨b0, b1⟩⟩ := hSw.cells
            go_simp
            all_goals with_reducible rfl
          simp only [Act.put, List.setIfInBounds_toArray, List.set_cons_zero, List.set_cons_succ]
          refine ord_call (f := 9) (args := #[.agg #[.int .u64 (A : Int), .int .i64 (va : Int)]]) (w1 := w7) (i := 22) (fuel := 7) (by simp; rfl) (by kernel_rfl) (by rfl) ?_ ?_
          · go_simp
            all_goals with_reducible rfl
          (with_reducible refine (HML.out _ _).mono ?_)
          rintro e w8 ⟨Q3, q3, rfl, _, hb⟩
          have HK8 := Lib.hid (HK7.out.below hb)
          clear hb
          refine ⟨_, rfl, HK8.out, ?_⟩
          simp only [Act.put, List.setIfInBounds_toArray, List.set_cons_zero, List.set_cons_succ]
          refine ord_take (v := ?_) (i := 23) (fuel := 6) (by simp; rfl) (by kernel_rfl) (by kernel_rfl) (by kernel_rfl) (Or.inl ⟨by rfl, fun w' hSw => ?_⟩) HK8.out ?_
          rotate_left
          · go_simp
            all_goals with_reducible rfl
          simp only [Act.put, List.setIfInBounds_toArray, List.set_cons_zero, List.set_cons_succ]
          refine ord_call (f := 9) (args := #[.agg #[.int .u64 (B : Int), .int .i64 (vb : Int)]]) (w1 := w8) (i := 25) (fuel := 5) (by simp; rfl) (by kernel_rfl) (by rfl) ?_ ?_
          · go_simp
            all_goals with_reducible rfl
          (with_reducible refine (HMM.out _ _).mono ?_)
          rintro e w9 ⟨Q4, q4, rfl, _, hb⟩
          have HK9 := Lib.hid (HK8.out.below hb)
          clear hb
          refine ⟨_, rfl, HK9.out, ?_⟩
          simp only [Act.put, List.setIfInBounds_toArray, List.set_cons_zero, List.set_cons_succ]
          refine ord_take (v := ?_) (i := 26) (fuel := 4) (by simp; rfl) (by kernel_rfl) (by kernel_rfl) (by kernel_rfl) (Or.inl ⟨by rfl, fun w' hSw => ?_⟩) HK9.out ?_
          rotate_left
          · go_simp
            all_goals with_reducible rfl
          simp only [Act.put, List.setIfInBounds_toArray, List.set_cons_zero, List.set_cons_succ]
          refine ord_take (v := ?_) (i := 27) (fuel := 3) (by simp; rfl) (by kernel_rfl) (by kernel_rfl) (by kernel_rfl) (Or.inl ⟨by rfl, fun w' hSw => ?_⟩) HK9.out ?_
          rotate_left
          · go_simp
            all_goals with_reducible rfl
          simp only [Act.put, List.setIfInBounds_toArray, List.set_cons_zero, List.set_cons_succ]
          refine ord_take (v := ?_) (i := 28) (fuel := 2) (by simp; rfl) (by kernel_rfl) (by kernel_rfl) (by kernel_rfl) (Or.inl ⟨by rfl, fun w' hSw => ?_⟩) HK9.out ?_
          rotate_left
          · have he := HLEN.out
            go_simp
            all_goals with_reducible rfl
          simp only [Act.put, List.setIfInBounds_toArray, List.set_cons_zero, List.set_cons_succ]
          refine ord_take (v := ?_) (i := 29) (fuel := 1) (by simp; rfl) (by kernel_rfl) (by kernel_rfl) (by kernel_rfl) (Or.inl ⟨by rfl, fun w' hSw => ?_⟩) HK9.out ?_
          rotate_left
          · go_simp
            all_goals with_reducible rfl
          simp only [Act.put, List.setIfInBounds_toArray, List.set_cons_zero, List.set_cons_succ]
          refine ord_take (v := ?_) (i := 30) (fuel := 0) (by simp; rfl) (by kernel_rfl) (by kernel_rfl) (by kernel_rfl) (Or.inl ⟨by rfl, fun w' hSw => ?_⟩) HK9.out ?_
          rotate_left
          · go_simp
            all_goals with_reducible rfl
          simp only [Act.put, List.setIfInBounds_toArray, List.set_cons_zero, List.set_cons_succ]
          refine ord_done (by kernel_rfl) ?_ _
          go_wp2
          go_ret
          exact ⟨rfl, HK9.out.2.2⟩
        · have HQ := Lib.hid (show belowB A va B vb = false by rw [← HFB.out, decide_eq_false hle]; rfl)
          have hle2 : decide ((va : Int) ≤ (vb : Int)) = false := decide_eq_false hle
          refine wp_region_ord (S := fun U => LS w A B va vb U) (by kernel_rfl) ?_
          refine ord_call (f := 10) (args := #[]) (w1 := w5.drew) (i := 0) (fuel := 30) (by simp; rfl) (by kernel_rfl) (by rfl) ?_ ?_
          · go_simp
            all_goals with_reducible rfl
          (with_reducible refine (known8_c _).mono ?_)
          rintro e w6 ⟨rfl, hb⟩
          have HK6 := Lib.hid (HKd.out.below hb)
          clear hb
          refine ⟨_, rfl, HK6.out, ?_⟩
          simp only [Act.put, List.setIfInBounds_toArray, List.set_cons_zero, List.set_cons_succ]
          refine ord_take (v := ?_) (i := 1) (fuel := 29) (by simp; rfl) (by kernel_rfl) (by kernel_rfl) (by kernel_rfl) (Or.inl ⟨by rfl, fun w' hSw => ?_⟩) HK6.out ?_
          rotate_left
          · go_simp
            all_goals with_reducible rfl
          simp only [Act.put, List.setIfInBounds_toArray, List.set_cons_zero, List.set_cons_succ]
          refine ord_take (v := ?_) (i := 2) (fuel := 28) (by simp; rfl) (by kernel_rfl) (by kernel_rfl) (by kernel_rfl) (Or.inl ⟨by rfl, fun w' hSw => ?_⟩) HK6.out ?_
          rotate_left
          · obtain ⟨⟨a0, a1⟩, ⟨b0, b1⟩⟩ := hSw.cells
            go_simp
            all_goals with_reducible rfl
          simp only [Act.put, List.setIfInBounds_toArray, List.set_cons_zero, List.set_cons_succ]
          refine ord_take (v := ?_) (i := 3) (fuel := 27) (by simp; rfl) (by kernel_rfl) (by kernel_rfl) (by kernel_rfl) (Or.inl ⟨by rfl, fun w' hSw => ?_⟩) HK6.out ?_
          rotate_left
          · obtain ⟨⟨a0, a1⟩, ⟨b0, b1⟩⟩ := hSw.cells
            go_simp
            all_goals with_reducible rfl
          simp only [Act.put, List.setIfInBounds_toArray, List.set_cons_zero, List.set_cons_succ]
          refine ord_take (v := ?_) (i := 5) (fuel := 26) (by simp; rfl) (by kernel_rfl) (by kernel_rfl) (by kernel_rfl) (Or.inl ⟨by rfl, fun w' hSw => ?_⟩) HK6.out ?_
          rotate_left
          · go_simp
            all_goals with_reducible rfl
          simp only [Act.put, List.setIfInBounds_toArray, List.set_cons_zero, List.set_cons_succ]
          refine ord_call (f := 13) (args := #[.agg #[.int .u64 (A : Int), .int .i64 (va : Int)], .agg #[.int .u64 (B : Int), .int .i64 (vb : Int)]]) (w1 := w6) (i := 4) (fuel := 25) (by simp; rfl) (by kernel_rfl) (by rfl) ?_ ?_
          · go_simp
            all_goals with_reducible rfl
          (with_reducible refine (HPB.out false _ HQ.out).mono ?_)
          rintro e w7 ⟨rfl, hb⟩
          have HK7 := Lib.hid (HK6.out.below hb)
          clear hb
          refine ⟨_, rfl, HK7.out, ?_⟩
          simp only [Act.put, List.setIfInBounds_toArray, List.set_cons_zero, List.set_cons_succ]
          refine ord_take (v := ?_) (i := 6) (fuel := 24) (by simp; rfl) (by kernel_rfl) (by kernel_rfl) (by kernel_rfl) (Or.inl ⟨by rfl, fun w' hSw => ?_⟩) HK7.out ?_
          rotate_left
          · go_simp
            all_goals with_reducible rfl
          simp only [Act.put, List.setIfInBounds_toArray, List.set_cons_zero, List.set_cons_succ]
          refine ord_take (v := ?_) (i := 7) (fuel := 23) (by simp; rfl) (by kernel_rfl) (by kernel_rfl) (by kernel_rfl) (Or.inl ⟨by rfl, fun w' hSw => ?_⟩) HK7.out ?_
          rotate_left
          · go_simp
            all_goals with_reducible rfl
          simp only [Act.put, List.setIfInBounds_toArray, List.set_cons_zero, List.set_cons_succ]
          refine ord_take (v := ?_) (i := 9) (fuel := 22) (by simp; rfl) (by kernel_rfl) (by kernel_rfl) (by kernel_rfl) (Or.inl ⟨by rfl, fun w' hSw => ?_⟩) HK7.out ?_
          rotate_left
          · go_simp
            all_goals with_reducible rfl
          simp only [Act.put, List.setIfInBounds_toArray, List.set_cons_zero, List.set_cons_succ]
          refine ord_take (v := ?_) (i := 8) (fuel := 21) (by simp; rfl) (by kernel_rfl) (by kernel_rfl) (by kernel_rfl) (Or.inl ⟨by rfl, fun w' hSw => ?_⟩) HK7.out ?_
          rotate_left
          · obtain ⟨⟨a0, a1⟩, ⟨b0, b1⟩⟩ := hSw.cells
            go_simp
            all_goals with_reducible rfl
          simp only [Act.put, List.setIfInBounds_toArray, List.set_cons_zero, List.set_cons_succ]
          refine ord_take (v := ?_) (i := 10) (fuel := 20) (by simp; rfl) (by kernel_rfl) (by kernel_rfl) (by kernel_rfl) (Or.inl ⟨by rfl, fun w' hSw => ?_⟩) HK7.out ?_
          rotate_left
          · obtain ⟨⟨a0, a1⟩, ⟨b0, b1⟩⟩ := hSw.cells
            go_simp
            all_goals with_reducible rfl
          simp only [Act.put, List.setIfInBounds_toArray, List.set_cons_zero, List.set_cons_succ]
          refine ord_take (v := ?_) (i := 11) (fuel := 19) (by simp; rfl) (by kernel_rfl) (by kernel_rfl) (by kernel_rfl) (Or.inl ⟨by rfl, fun w' hSw => ?_⟩) HK7.out ?_
          rotate_left
          · go_simp
            all_goals with_reducible rfl
          simp only [Act.put, List.setIfInBounds_toArray, List.set_cons_zero, List.set_cons_succ]
          refine ord_take (v := ?_) (i := 12) (fuel := 18) (by simp; rfl) (by kernel_rfl) (by kernel_rfl) (by kernel_rfl) (Or.inl ⟨by rfl, fun w' hSw => ?_⟩) HK7.out ?_
          rotate_left
          · go_simp
            all_goals with_reducible rfl
          simp only [Act.put, List.setIfInBounds_toArray, List.set_cons_zero, List.set_cons_succ]
          refine ord_take (v := ?_) (i := 13) (fuel := 17) (by simp; rfl) (by kernel_rfl) (by kernel_rfl) (by kernel_rfl) (Or.inl ⟨by rfl, fun w' hSw => ?_⟩) HK7.out ?_
          rotate_left
          · go_simp
            all_goals with_reducible rfl
          simp only [Act.put, List.setIfInBounds_toArray, List.set_cons_zero, List.set_cons_succ]
          refine ord_take (v := ?_) (i := 14) (fuel := 16) (by simp; rfl) (by kernel_rfl) (by kernel_rfl) (by kernel_rfl) (Or.inl ⟨by rfl, fun w' hSw => ?_⟩) HK7.out ?_
          rotate_left
          · go_simp
            all_goals with_reducible rfl
          simp only [Act.put, List.setIfInBounds_toArray, List.set_cons_zero, List.set_cons_succ]
          refine ord_take (v := ?_) (i := 15) (fuel := 15) (by simp; rfl) (by kernel_rfl) (by kernel_rfl) (by kernel_rfl) (Or.inl ⟨by rfl, fun w' hSw => ?_⟩) HK7.out ?_
          rotate_left
          · go_simp
            all_goals with_reducible rfl
          simp only [Act.put, List.setIfInBounds_toArray, List.set_cons_zero, List.set_cons_succ]
          refine ord_take (v := ?_) (i := 16) (fuel := 14) (by simp; rfl) (by kernel_rfl) (by kernel_rfl) (by kernel_rfl) (Or.inl ⟨by rfl, fun w' hSw => ?_⟩) HK7.out ?_
          rotate_left
          · go_simp
            all_goals with_reducible rfl
          simp only [Act.put, List.setIfInBounds_toArray, List.set_cons_zero, List.set_cons_succ]
          refine ord_take (v := ?_) (i := 17) (fuel := 13) (by simp; rfl) (by kernel_rfl) (by kernel_rfl) (by kernel_rfl) (Or.inl ⟨by rfl, fun w' hSw => ?_⟩) HK7.out ?_
          rotate_left
          · go_simp
            all_goals with_reducible rfl
          simp only [Act.put, List.setIfInBounds_toArray, List.set_cons_zero, List.set_cons_succ]
          refine ord_take (v := ?_) (i := 18) (fuel := 12) (by simp; rfl) (by kernel_rfl) (by kernel_rfl) (by kernel_rfl) (Or.inl ⟨by rfl, fun w' hSw => ?_⟩) HK7.out ?_
          rotate_left
          · go_simp
            all_goals with_reducible rfl
          simp only [Act.put, List.setIfInBounds_toArray, List.set_cons_zero, List.set_cons_succ]
          refine ord_take (v := ?_) (i := 19) (fuel := 11) (by simp; rfl) (by kernel_rfl) (by kernel_rfl) (by kernel_rfl) (Or.inl ⟨by rfl, fun w' hSw => ?_⟩) HK7.out ?_
          rotate_left
          · go_simp
            all_goals with_reducible rfl
          simp only [Act.put, List.setIfInBounds_toArray, List.set_cons_zero, List.set_cons_succ]
          refine ord_take (v := ?_) (i := 20) (fuel := 10) (by simp; rfl) (by kernel_rfl) (by kernel_rfl) (by kernel_rfl) (Or.inl ⟨by rfl, fun w' hSw => ?_⟩) HK7.out ?_
          rotate_left
          · go_simp
            all_goals with_reducible rfl
          simp only [Act.put, List.setIfInBounds_toArray, List.set_cons_zero, List.set_cons_succ]
          refine ord_take (v := ?_) (i := 21) (fuel := 9) (by simp; rfl) (by kernel_rfl) (by kernel_rfl) (by kernel_rfl) (Or.inl ⟨by rfl, fun w' hSw => ?_⟩) HK7.out ?_
          rotate_left
          · obtain ⟨⟨a0, a1⟩, ⟨b0, b1⟩⟩ := hSw.cells
            go_simp
            all_goals with_reducible rfl
          simp only [Act.put, List.setIfInBounds_toArray, List.set_cons_zero, List.set_cons_succ]
          refine ord_take (v := ?_) (i := 24) (fuel := 8) (by simp; rfl) (by kernel_rfl) (by kernel_rfl) (by kernel_rfl) (Or.inl ⟨by rfl, fun w' hSw => ?_⟩) HK7.out ?_
          rotate_left
          · obtain ⟨⟨a0, a1⟩, ⟨b0, b1⟩⟩ := hSw.cells
            go_simp
            all_goals with_reducible rfl
          simp only [Act.put, List.setIfInBounds_toArray, List.set_cons_zero, List.set_cons_succ]
          refine ord_call (f := 9) (args := #[.agg #[.int .u64 (A : Int), .int .i64 (va : Int)]]) (w1 := w7) (i := 22) (fuel := 7) (by simp; rfl) (by kernel_rfl) (by rfl) ?_ ?_
          · go_simp
            all_goals with_reducible rfl
          (with_reducible refine (HML.out _ _).mono ?_)
          rintro e w8 ⟨Q3, q3, rfl, _, hb⟩
          have HK8 := Lib.hid (HK7.out.below hb)
          clear hb
          refine ⟨_, rfl, HK8.out, ?_⟩
          simp only [Act.put, List.setIfInBounds_toArray, List.set_cons_zero, List.set_cons_succ]
          refine ord_take (v := ?_) (i := 23) (fuel := 6) (by simp; rfl) (by kernel_rfl) (by kernel_rfl) (by kernel_rfl) (Or.inl ⟨by rfl, fun w' hSw => ?_⟩) HK8.out ?_
          rotate_left
          · go_simp
            all_goals with_reducible rfl
          simp only [Act.put, List.setIfInBounds_toArray, List.set_cons_zero, List.set_cons_succ]
          refine ord_call (f := 9) (args := #[.agg #[.int .u64 (B : Int), .int .i64 (vb : Int)]]) (w1 := w8) (i := 25) (fuel := 5) (by simp; rfl) (by kernel_rfl) (by rfl) ?_ ?_
          · go_simp
            all_goals with_reducible rfl
          (with_reducible refine (HMM.out _ _).mono ?_)
          rintro e w9 ⟨Q4, q4, rfl, _, hb⟩
          have HK9 := Lib.hid (HK8.out.below hb)
          clear hb
          refine ⟨_, rfl, HK9.out, ?_⟩
          simp only [Act.put, List.setIfInBounds_toArray, List.set_cons_zero, List.set_cons_succ]
          refine ord_take (v := ?_) (i := 26) (fuel := 4) (by simp; rfl) (by kernel_rfl) (by kernel_rfl) (by kernel_rfl) (Or.inl ⟨by rfl, fun w' hSw => ?_⟩) HK9.out ?_
          rotate_left
          · go_simp
            all_goals with_reducible rfl
          simp only [Act.put, List.setIfInBounds_toArray, List.set_cons_zero, List.set_cons_succ]
          refine ord_take (v := ?_) (i := 27) (fuel := 3) (by simp; rfl) (by kernel_rfl) (by kernel_rfl) (by kernel_rfl) (Or.inl ⟨by rfl, fun w' hSw => ?_⟩) HK9.out ?_
          rotate_left
          · go_simp
            all_goals with_reducible rfl
          simp only [Act.put, List.setIfInBounds_toArray, List.set_cons_zero, List.set_cons_succ]
          refine ord_take (v := ?_) (i := 28) (fuel := 2) (by simp; rfl) (by kernel_rfl) (by kernel_rfl) (by kernel_rfl) (Or.inl ⟨by rfl, fun w' hSw => ?_⟩) HK9.out ?_
          rotate_left
          · have he := HLEN.out
            go_simp
            all_goals with_reducible rfl
          simp only [Act.put, List.setIfInBounds_toArray, List.set_cons_zero, List.set_cons_succ]
          refine ord_take (v := ?_) (i := 29) (fuel := 1) (by simp; rfl) (by kernel_rfl) (by kernel_rfl) (by kernel_rfl) (Or.inl ⟨by rfl, fun w' hSw => ?_⟩) HK9.out ?_
          rotate_left
          · go_simp
            all_goals with_reducible rfl
          simp only [Act.put, List.setIfInBounds_toArray, List.set_cons_zero, List.set_cons_succ]
          refine ord_take (v := ?_) (i := 30) (fuel := 0) (by simp; rfl) (by kernel_rfl) (by kernel_rfl) (by kernel_rfl) (Or.inl ⟨by rfl, fun w' hSw => ?_⟩) HK9.out ?_
          rotate_left
          · go_simp
            all_goals with_reducible rfl
          simp only [Act.put, List.setIfInBounds_toArray, List.set_cons_zero, List.set_cons_succ]
          refine ord_done (by kernel_rfl) ?_ _
          go_wp2
          go_ret
          exact ⟨rfl, HK9.out.2.2⟩
end Go.Proofs.Ytpplledoankfgaa

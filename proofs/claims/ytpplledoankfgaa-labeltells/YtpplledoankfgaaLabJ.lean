/- LabelBack, LabelSets. -/
import Derived.Test.YtpplledoankfgaaLabI
namespace Go.Proofs.Ytpplledoankfgaa
open Go.RowKit
theorem print_r (n v : Nat) (w : World) (hn : n < 256) : Calls Try.prog 16 #[.agg #[.int .u64 (n : Int), .int .i64 (v : Int)]] w fun e w' => e = .returned (.string ⟨(printL n v).toArray⟩) ∧ Below w.heap.size w w' := print_c n (n : Int) (v : Int) w rfl (by omega)
theorem right_r {n v : Nat} (hn : n < 256) (hv : v < 4) : rightB n v = true := rightB_iff.2 ⟨hn, by omega, by omega⟩
theorem read_r (n v : Nat) (w : World) (hn : n < 256) (hv : v < 4) : Calls Try.prog 8 #[.string ⟨(printL n v).toArray⟩] w fun e w' => e = .returned (.tuple #[.agg #[.int .u64 (n : Int), .int .i64 (v : Int)], .int .i64 0]) ∧ Below w.heap.size w w' :=
  read_v _ n (n : Int) (v : Int) 0 w (by rw [printL_yes (right_r hn hv)]; have := memL_le n; simp; omega) (back_r (right_r hn hv)).1 rfl
/-- The bits of the first j members. -/
def sumK : List Nat → Nat → Nat
  | _, 0 => 0
  | L, j + 1 => sumK L j ||| 2 ^ (L.getD j 0)
theorem sum_all : ∀ n, n < 256 → sumK (memL n) (memL n).length = n := by decide +kernel
theorem sumK_lt (L : List Nat) (h : ∀ k ∈ L, k < 8) : ∀ j, j ≤ L.length → sumK L j < 256
  | 0, _ => by unfold sumK; decide
  | j + 1, hj => by
    have h1 := sumK_lt L h j (by omega)
    have h2 : L.getD j 0 < 8 := by
      rw [List.getD_eq_getElem?_getD, List.getElem?_eq_getElem hj]
      exact h _ (List.getElem_mem hj)
    unfold sumK
    exact or_256 h1 (Nat.pow_lt_pow_right (m := L.getD j 0) (n := 8) (by decide) h2)
theorem sumK_next {L : List Nat} {j : Nat} (h : j < L.length) : sumK L (j + 1) = sumK L j ||| 2 ^ L[j] := by
  rw [sumK, List.getD_eq_getElem?_getD, List.getElem?_eq_getElem h]
  rfl
theorem bl_member {n k : Nat} {v u : Int} (h : k ∈ memL n) (hv : v ≤ u) : belowB (2 ^ k) v n u = true := by
  refine belowB_iff.2 ⟨sub_iff.2 fun i hi => ?_, hv⟩
  rw [Nat.testBit_two_pow] at hi
  obtain rfl : k = i := by simpa using hi
  exact (memL_mem.1 h).2
theorem of_q (k : Nat) (v r : Int) (w : World) (hk : k < 8) (hr : min (max v 0) 3 = r) : Calls Try.prog 14 #[.int .i64 (k : Int), .int .i64 v] w fun e w' => e = .returned (.agg #[.int .u64 ((2 ^ k : Nat) : Int), .int .i64 r]) ∧ Below w.heap.size w w' :=
  of_v (k : Int) v _ r w (by rw [ofSet_nat hk]) hr
/-- a, b, j of LabelBack. -/
def LB (w : World) (N V : Nat) (gb gj m : Nat) (U : World) : Prop :=
  Blk U w.heap.size 25 #[.int .u64 (N : Int), .int .i64 (V : Int)] ∧ Blk U gb 25 #[.int .u64 (N : Int), .int .i64 (V : Int)] ∧ Blk U gj 25 #[.int .u64 (m : Int), .int .i64 (V : Int)] ∧ Below w.heap.size w U ∧ w.heap.size < gj ∧ gb < gj
section
variable {w U U' : World} {N V gb gj m : Nat}
theorem LB.below (h : LB w N V gb gj m U) (hb : Below U.heap.size U U') : LB w N V gb gj m U' :=
  ⟨h.1.below hb h.1.lt, h.2.1.below hb h.2.1.lt, h.2.2.1.below hb h.2.2.1.lt, bel_tr2 h.2.2.2.1 hb, h.2.2.2.2⟩
theorem LB.drew (h : LB w N V gb gj m U) : LB w N V gb gj m U.drew := ⟨h.1.drew, h.2.1.drew, h.2.2.1.drew, h.2.2.2.1.drew, h.2.2.2.2⟩
theorem LB.cells (h : LB w N V gb gj m U) : Cel U w.heap.size N V ∧ Cel U gb N V ∧ Cel U gj m V := ⟨cel_of h.1, cel_of h.2.1, cel_of h.2.2.1⟩
theorem LB.set (h : LB w N V gb gj m U) (r : Nat) : LB w N V gb gj r ((U.setCell ⟨gj, 0, none⟩ (.int .u64 (r : Int))).setCell ⟨gj, 1, none⟩ (.int .i64 (V : Int))) := by
  have hg := h.2.2.2.2
  refine ⟨(h.1.far (p := ⟨gj, 0, none⟩) (by simp; omega) _).far (p := ⟨gj, 1, none⟩) (by simp; omega) _, (h.2.1.far (p := ⟨gj, 0, none⟩) (by simp; omega) _).far (p := ⟨gj, 1, none⟩) (by simp; omega) _, ?_, bel2 h.2.2.2.1 (by omega), hg⟩
  have := (h.2.2.1.set_ 0 (.int .u64 (r : Int))).set_ 1 (.int .i64 (V : Int))
  simpa using this
end
theorem NsA.set {w : World} {A : Option Addr} {L : List Nat} (h : NsA w A L) {p : Addr} (hp : ∀ j, j < L.length → ∀ g, A = some ⟨g, 0, none⟩ → g ≠ p.block) (u : Value) : NsA (w.setCell p u) A L := fun j hj => by
  obtain ⟨g, cur, e, hh, hc⟩ := h j hj
  have hne := hp j hj g e
  have hb : (w.setCell p u).heap[g]? = w.heap[g]? := Below.heap_setCell w p u g hne
  exact ⟨g, cur, e, by rw [hb]; exact hh, by rw [World.cell?_of_block (a := ⟨g, j, none⟩) hb]; exact hc⟩
/-- A slice of ints and a label lie in blocks of their own: the types part them. -/
theorem NsA.ne {w : World} {A : Option Addr} {L : List Nat} (h : NsA w A L) {q : Nat} {cs : Array Value} (hq : Blk w q 25 cs) : ∀ j, j < L.length → ∀ g, A = some ⟨g, 0, none⟩ → g ≠ q := fun j hj g hg => by
  obtain ⟨g', cur, e, hh, _⟩ := h j hj
  rw [hg] at e
  injection e with e
  injection e with e
  subst e
  rintro rfl
  unfold Blk at hq
  rw [hh] at hq
  injection hq with hq
  injection hq with _ hq
  exact absurd hq (by decide)
theorem NsA.set2 {w : World} {A : Option Addr} {L : List Nat} (h : NsA w A L) {q : Nat} {cs : Array Value} (hq : Blk w q 25 cs) (u v : Value) : NsA ((w.setCell ⟨q, 0, none⟩ u).setCell ⟨q, 1, none⟩ v) A L :=
  (h.set (p := ⟨q, 0, none⟩) (h.ne hq) u).set (p := ⟨q, 1, none⟩) (h.ne hq) v
def BkRel (w : World) (N V gb gj : Nat) (A : Option Addr) (L : List Nat) (i : Value) (wr : World) : Prop := ∃ c : Nat, c ≤ L.length ∧ i = .int .i64 c ∧ LB w N V gb gj (sumK L c) wr ∧ NsA wr A L
set_option maxRecDepth 100000 in
set_option maxHeartbeats 3200000 in
theorem labelBack_c (x0 x1 : Int) (w : World) : Calls Try.prog 6 #[.int .i64 x0, .int .i64 x1] w fun e w' => e = .returned (.bool true) ∧ Below w.heap.size w w' := by
  go_enter Try.func6, Try.ntmps6
  go_wp2_with fail
  (with_reducible refine (pickB x0 256 _ (by omega) (by omega)).mono ?_)
  rintro e w' ⟨N, hN, rfl, rfl⟩
  go_wp2_with fail
  (with_reducible refine (pickB x1 4 _ (by omega) (by omega)).mono ?_)
  rintro e w' ⟨V, hV, rfl, rfl⟩
  have hN8 : N < 256 := by omega
  have hV4 : V < 4 := by omega
  have hA := Blk.new w 25 #[.int .u64 (N : Int), .int .i64 (V : Int)]
  have hb0 := bel_alloc (Below.refl w.heap.size w) (.cells #[.int .u64 (N : Int), .int .i64 (V : Int)] 25)
  have HPR := Lib.hid (fun w' => print_r N V w' hN8)
  have HRR := Lib.hid (fun w' => read_r N V w' hN8 hV4)
  obtain ⟨T, hT⟩ : ∃ T, printL N V = T := ⟨_, rfl⟩
  rw [hT] at HPR HRR
  clear hT hN hV
  obtain ⟨W, hW⟩ : ∃ W, w.alloc (.cells #[.int .u64 (N : Int), .int .i64 (V : Int)] 25) = W := ⟨_, rfl⟩
  rw [hW] at hA hb0
  obtain ⟨a0, a1⟩ := cel_of hA
  go_wp2_with fail
  clear hW
  (with_reducible refine (HPR.out _).mono ?_)
  rintro e w1 ⟨rfl, hb⟩
  have hA1 := hA.below hb hA.lt
  have hb1 := bel_tr2 hb0 hb
  clear hA hb0 hb a0 a1
  go_wp2_with fail
  (with_reducible refine (HRR.out _).mono ?_)
  rintro e w2 ⟨rfl, hb⟩
  have hA2 := (hA1.below hb hA1.lt).alloc (.cells #[.int .u64 (N : Int), .int .i64 (V : Int)] 25)
  have hB2 := Blk.new w2 25 #[.int .u64 (N : Int), .int .i64 (V : Int)]
  have hb2 := bel_alloc (bel_tr2 hb1 hb) (.cells #[.int .u64 (N : Int), .int .i64 (V : Int)] 25)
  clear hA1 hb1 hb
  obtain ⟨W2, hW2⟩ : ∃ W2, w2.alloc (.cells #[.int .u64 (N : Int), .int .i64 (V : Int)] 25) = W2 := ⟨_, rfl⟩
  have hs2 : W2.heap.size = w2.heap.size + 1 := by rw [← hW2]; simp
  rw [hW2] at hA2 hB2 hb2
  obtain ⟨gb, hgb⟩ : ∃ gb, w2.heap.size = gb := ⟨_, rfl⟩
  rw [hgb] at hB2 hs2
  have hA3 := hA2.alloc (.cells #[.int .u64 0, .int .i64 (V : Int)] 25)
  have hB3 := hB2.alloc (.cells #[.int .u64 0, .int .i64 (V : Int)] 25)
  have hJ3 := Blk.new W2 25 #[.int .u64 0, .int .i64 (V : Int)]
  have hL3 : LB w N V gb W2.heap.size 0 (W2.alloc (.cells #[.int .u64 0, .int .i64 (V : Int)] 25)) := ⟨hA3, hB3, hJ3, bel_alloc hb2 _, by have := hA2.lt; omega, by omega⟩
  rw [hs2] at hL3
  obtain ⟨a0, a1⟩ := cel_of hA2
  obtain ⟨⟨aa0, aa1⟩, _, _⟩ := hL3.cells
  have HK := Lib.hid hL3
  obtain ⟨L, hLL⟩ : ∃ L, memL N = L := ⟨_, rfl⟩
  have HM := Lib.hid (fun w' => members_v N (N : Int) (V : Int) L L.length w' rfl (by omega) hLL rfl)
  have HS := Lib.hid (show sumK L L.length = N by rw [← hLL]; exact sum_all N hN8)
  have HL8 := Lib.hid (show ∀ k ∈ L, k < 8 from fun k hk => memL_lt (by rw [hLL]; exact hk))
  have HBL := Lib.hid (show ∀ k ∈ L, belowB (2 ^ k) V N V = true from fun k hk => bl_member (by rw [hLL]; exact hk) (by omega))
  have hlen := memL_le N
  rw [hLL] at hlen
  clear hA3 hB3 hJ3 hL3 hA2 hB2 hb2 hLL
  go_wp2_with fail
  clear hW2 hgb a0 a1 aa0 aa1 hs2
  (with_reducible refine (HM.out _).mono ?_)
  rintro e w4 ⟨A, c, rfl, hA, hb⟩
  have HK4 := Lib.hid (HK.out.below hb)
  have HA4 := Lib.hid hA
  clear hA hb HK
  go_wp2
  go_loopw [29] (fun i wr => BkRel w N V gb (gb + 1) A L i wr) (fun i _ => 8 - (intOf i).toNat)
  case atStart => exact ⟨0, by omega, rfl, HK4.out, HA4.out⟩
  case round =>
    obtain ⟨c, hc, rfl, hk, hA⟩ := hrel
    clear HK4 HA4
    have HK := Lib.hid hk
    have HA := Lib.hid hA
    clear hk hA
    by_cases hlt : c < L.length
    · have hlt' : (c : Int) < (L.length : Int) := by omega
      obtain ⟨g, rfl, hg, hcell⟩ := HA.out.lt c hlt
      have hmem := List.getElem_mem hlt
      have HN := Lib.hid (sumK_next hlt)
      have HSL := Lib.hid (sumK_lt L HL8.out c hc)
      obtain ⟨k, hk⟩ : ∃ k, L[c] = k := ⟨_, rfl⟩
      rw [hk] at hcell hmem HN
      have hk8 := HL8.out k hmem
      have HB2 := Lib.hid (HBL.out k hmem)
      obtain ⟨m, hm⟩ : ∃ m, sumK L c = m := ⟨_, rfl⟩
      rw [hm] at HN HK HSL
      have hp8 : 2 ^ k < 256 := by have : 2 ^ k < 2 ^ 8 := Nat.pow_lt_pow_right (by decide) hk8
                                   exact this
      obtain ⟨P, hP⟩ : ∃ P, 2 ^ k = P := ⟨_, rfl⟩
      obtain ⟨r, hr⟩ : ∃ r, m ||| P = r := ⟨_, rfl⟩
      have HOF := Lib.hid (fun v rr w' hv => by have h := of_q k v rr w' hk8 hv; rw [hP] at h; exact h)
      rw [hP] at HB2 HN hp8
      rw [hr] at HN
      have HJO := Lib.hid (fun w' => join_q m P r (V : Int) 0 (V : Int) w' HSL.out hp8 hr (by omega))
      clear hk hmem hm hr hP
      have HJB := Lib.hid (fun w' => below_q P N (V : Int) (V : Int) true w' hp8 hN8 HB2.out)
      go_wp2_with fail
      have HKd := Lib.hid HK.out.drew
      have HAd := Lib.hid HA.out.drew
      obtain ⟨_, _, j0, j1⟩ := HKd.out.cells
      refine wp_region_ord (S := fun _ => True) (by kernel_rfl) ?_
      refine ord_take (v := ?_) (i := 1) (fuel := 4) (by simp; rfl) (by kernel_rfl) (by kernel_rfl) (by kernel_rfl) (Or.inl ⟨by rfl, fun w' hSw => ?_⟩) trivial ?_
      rotate_left
      · go_simp
        all_goals with_reducible rfl
      simp only [Act.put, List.setIfInBounds_toArray, List.set_cons_zero, List.set_cons_succ]
      refine ord_two (i := 0) (j := 2) (fuel := 3) (by kernel_rfl) ?_ ?_
      · as_aux_lemma =>
        refine ordI_only (v := ?_) (w' := wr.drew) (by simp; rfl) (by rfl) ?_ trivial ?_
        rotate_left
        · go_simp
          all_goals with_reducible rfl
        simp only [Act.put, List.setIfInBounds_toArray, List.set_cons_zero, List.set_cons_succ]
        clear j0 j1
        refine ord_call (f := 14) (args := #[.int .i64 (k : Int), .int .i64 0]) (w1 := wr.drew) (i := 2) (fuel := 2) (by simp; rfl) (by kernel_rfl) (by rfl) ?_ ?_
        · go_simp
          all_goals with_reducible rfl
        (with_reducible refine (HOF.out 0 0 _ (by decide)).mono ?_)
        rintro e w5 ⟨rfl, hb⟩
        have HK5 := Lib.hid (HKd.out.below hb)
        have HA5 := Lib.hid (HAd.out.below hb)
        clear hb
        refine ⟨_, rfl, trivial, ?_⟩
        simp only [Act.put, List.setIfInBounds_toArray, List.set_cons_zero, List.set_cons_succ]
        refine ord_call (f := 11) (args := #[.agg #[.int .u64 (m : Int), .int .i64 (V : Int)], .agg #[.int .u64 (P : Int), .int .i64 0]]) (w1 := w5) (i := 3) (fuel := 1) (by simp; rfl) (by kernel_rfl) (by rfl) ?_ ?_
        · go_simp
          all_goals with_reducible rfl
        (with_reducible refine (HJO.out _).mono ?_)
        rintro e w6 ⟨rfl, hb⟩
        have HK6 := Lib.hid (HK5.out.below hb)
        have HA6 := Lib.hid (HA5.out.below hb)
        clear hb
        refine ⟨_, rfl, trivial, ?_⟩
        simp only [Act.put, List.setIfInBounds_toArray, List.set_cons_zero, List.set_cons_succ]
        obtain ⟨_, j0, j1, jf0, jf1⟩ := two_of HK6.out.2.2.1
        refine ord_skip (w' := (w6.setCell ⟨gb + 1, 0, none⟩ (.int .u64 (r : Int))).setCell ⟨gb + 1, 1, none⟩ (.int .i64 (V : Int))) (i := 4) (fuel := 0) (by simp; rfl) (by kernel_rfl) (by rfl) (by rfl) ?_ trivial ?_
        · go_simp
          all_goals with_reducible rfl
        refine ord_done (by kernel_rfl) ?_ _
        clear j0 j1 jf0 jf1
        have HK7 := Lib.hid (show LB w N V gb (gb + 1) r _ ∧ NsA _ _ L from ⟨HK6.out.set r, HA6.out.set2 HK6.out.2.2.1 (.int .u64 (r : Int)) (.int .i64 (V : Int))⟩)
        obtain ⟨w7, hw7⟩ : ∃ w7, (w6.setCell ⟨gb + 1, 0, none⟩ (.int .u64 (r : Int))).setCell ⟨gb + 1, 1, none⟩ (.int .i64 (V : Int)) = w7 := ⟨_, rfl⟩
        rw [hw7] at HK7 ⊢
        clear hw7
        go_wp2_with fail
        have HK8 := Lib.hid (show LB w N V gb (gb + 1) r w7.drew ∧ NsA w7.drew (some ⟨g, 0, none⟩) L from ⟨HK7.out.1.drew, HK7.out.2⟩)
        refine wp_region_det (S := fun U => LB w N V gb (gb + 1) r U ∧ NsA U (some ⟨g, 0, none⟩) L) (by kernel_rfl) HK8.out ?_
        refine det_take (v := ?_) (i := 0) (fuel := 6) (by simp; rfl) (by kernel_rfl) (by kernel_rfl) (by kernel_rfl) (Or.inl ⟨by rfl, fun w' hS => Or.inl ⟨w', ?_, hS⟩⟩) ?_
        rotate_left
        · go_simp
          all_goals with_reducible rfl
        simp only [Act.put, List.setIfInBounds_toArray, List.set_cons_zero, List.set_cons_succ]
        refine det_take (v := ?_) (i := 1) (fuel := 5) (by simp; rfl) (by kernel_rfl) (by kernel_rfl) (by kernel_rfl) (Or.inl ⟨by rfl, fun w' hS => Or.inl ⟨w', ?_, hS⟩⟩) ?_
        rotate_left
        · go_simp
          all_goals with_reducible rfl
        simp only [Act.put, List.setIfInBounds_toArray, List.set_cons_zero, List.set_cons_succ]
        refine det_take (v := ?_) (i := 2) (fuel := 4) (by simp; rfl) (by kernel_rfl) (by kernel_rfl) (by kernel_rfl) (Or.inl ⟨by rfl, fun w' hS => Or.inl ⟨w', ?_, hS⟩⟩) ?_
        rotate_left
        · obtain ⟨⟨a0, a1⟩, _, _⟩ := hS.1.cells
          go_simp
          all_goals with_reducible rfl
        simp only [Act.put, List.setIfInBounds_toArray, List.set_cons_zero, List.set_cons_succ]
        refine det_take (v := ?_) (i := 3) (fuel := 3) (by simp; rfl) (by kernel_rfl) (by kernel_rfl) (by kernel_rfl) (Or.inl ⟨by rfl, fun w' hS => Or.inr ⟨14, #[.int .i64 (k : Int), .int .i64 (V : Int)], w', ?_, ?_⟩⟩) ?_
        rotate_left
        · go_simp
          all_goals with_reducible rfl
        · exact (HOF.out (V : Int) (V : Int) w' (by omega)).mono fun e w2 h => ⟨by rw [h.1], ⟨hS.1.below h.2, hS.2.below h.2⟩⟩
        simp only [Act.put, List.setIfInBounds_toArray, List.set_cons_zero, List.set_cons_succ]
        refine det_take (v := ?_) (i := 4) (fuel := 2) (by simp; rfl) (by kernel_rfl) (by kernel_rfl) (by kernel_rfl) (Or.inl ⟨by rfl, fun w' hS => Or.inl ⟨w', ?_, hS⟩⟩) ?_
        rotate_left
        · obtain ⟨⟨a0, a1⟩, _, _⟩ := hS.1.cells
          go_simp
          all_goals with_reducible rfl
        simp only [Act.put, List.setIfInBounds_toArray, List.set_cons_zero, List.set_cons_succ]
        refine det_take (v := ?_) (i := 5) (fuel := 1) (by simp; rfl) (by kernel_rfl) (by kernel_rfl) (by kernel_rfl) (Or.inl ⟨by rfl, fun w' hS => Or.inr ⟨13, #[.agg #[.int .u64 (P : Int), .int .i64 (V : Int)], .agg #[.int .u64 (N : Int), .int .i64 (V : Int)]], w', ?_, ?_⟩⟩) ?_
        rotate_left
        · go_simp
          all_goals with_reducible rfl
        · exact (HJB.out w').mono fun e w2 h => ⟨by rw [h.1], ⟨hS.1.below h.2, hS.2.below h.2⟩⟩
        simp only [Act.put, List.setIfInBounds_toArray, List.set_cons_zero, List.set_cons_succ]
        refine det_take (v := ?_) (i := 6) (fuel := 0) (by simp; rfl) (by kernel_rfl) (by kernel_rfl) (by kernel_rfl) (Or.inl ⟨by rfl, fun w' hS => Or.inl ⟨w', ?_, hS⟩⟩) ?_
        rotate_left
        · go_simp
          all_goals with_reducible rfl
        simp only [Act.put, List.setIfInBounds_toArray, List.set_cons_zero, List.set_cons_succ]
        refine det_done (by kernel_rfl) (fun V hV => ?_) _
        clear hcell
        go_wp2
        go_roundw
        case rel => exact ⟨c + 1, by omega, by go_num, by rw [HN.out]; exact hV.1, hV.2⟩
        case measure => simp [intOf]; omega
      · as_aux_lemma =>
        refine ordI_call (f := 14) (args := #[.int .i64 (k : Int), .int .i64 0]) (w1 := wr.drew) (by simp; rfl) (by rfl) ?_ ?_
        · go_simp
          all_goals with_reducible rfl
        clear j0 j1
        (with_reducible refine (HOF.out 0 0 _ (by decide)).mono ?_)
        rintro e w5 ⟨rfl, hb⟩
        have HK5 := Lib.hid (HKd.out.below hb)
        have HA5 := Lib.hid (HAd.out.below hb)
        clear hb
        refine ⟨_, rfl, trivial, ?_⟩
        simp only [Act.put, List.setIfInBounds_toArray, List.set_cons_zero, List.set_cons_succ]
        obtain ⟨_, _, j0, j1⟩ := HK5.out.cells
        refine ord_only (v := ?_) (w' := w5) (i := 0) (fuel := 2) (by simp; rfl) (by kernel_rfl) (by rfl) ?_ trivial ?_
        rotate_left
        · go_simp
          all_goals with_reducible rfl
        simp only [Act.put, List.setIfInBounds_toArray, List.set_cons_zero, List.set_cons_succ]
        clear j0 j1
        refine ord_call (f := 11) (args := #[.agg #[.int .u64 (m : Int), .int .i64 (V : Int)], .agg #[.int .u64 (P : Int), .int .i64 0]]) (w1 := w5) (i := 3) (fuel := 1) (by simp; rfl) (by kernel_rfl) (by rfl) ?_ ?_
        · go_simp
          all_goals with_reducible rfl
        (with_reducible refine (HJO.out _).mono ?_)
        rintro e w6 ⟨rfl, hb⟩
        have HK6 := Lib.hid (HK5.out.below hb)
        have HA6 := Lib.hid (HA5.out.below hb)
        clear hb
        refine ⟨_, rfl, trivial, ?_⟩
        simp only [Act.put, List.setIfInBounds_toArray, List.set_cons_zero, List.set_cons_succ]
        obtain ⟨_, j0, j1, jf0, jf1⟩ := two_of HK6.out.2.2.1
        refine ord_skip (w' := (w6.setCell ⟨gb + 1, 0, none⟩ (.int .u64 (r : Int))).setCell ⟨gb + 1, 1, none⟩ (.int .i64 (V : Int))) (i := 4) (fuel := 0) (by simp; rfl) (by kernel_rfl) (by rfl) (by rfl) ?_ trivial ?_
        · go_simp
          all_goals with_reducible rfl
        refine ord_done (by kernel_rfl) ?_ _
        clear j0 j1 jf0 jf1
        have HK7 := Lib.hid (show LB w N V gb (gb + 1) r _ ∧ NsA _ _ L from ⟨HK6.out.set r, HA6.out.set2 HK6.out.2.2.1 (.int .u64 (r : Int)) (.int .i64 (V : Int))⟩)
        obtain ⟨w7, hw7⟩ : ∃ w7, (w6.setCell ⟨gb + 1, 0, none⟩ (.int .u64 (r : Int))).setCell ⟨gb + 1, 1, none⟩ (.int .i64 (V : Int)) = w7 := ⟨_, rfl⟩
        rw [hw7] at HK7 ⊢
        clear hw7
        go_wp2_with fail
        have HK8 := Lib.hid (show LB w N V gb (gb + 1) r w7.drew ∧ NsA w7.drew (some ⟨g, 0, none⟩) L from ⟨HK7.out.1.drew, HK7.out.2⟩)
        refine wp_region_det (S := fun U => LB w N V gb (gb + 1) r U ∧ NsA U (some ⟨g, 0, none⟩) L) (by kernel_rfl) HK8.out ?_
        refine det_take (v := ?_) (i := 0) (fuel := 6) (by simp; rfl) (by kernel_rfl) (by kernel_rfl) (by kernel_rfl) (Or.inl ⟨by rfl, fun w' hS => Or.inl ⟨w', ?_, hS⟩⟩) ?_
        rotate_left
        · go_simp
          all_goals with_reducible rfl
        simp only [Act.put, List.setIfInBounds_toArray, List.set_cons_zero, List.set_cons_succ]
        refine det_take (v := ?_) (i := 1) (fuel := 5) (by simp; rfl) (by kernel_rfl) (by kernel_rfl) (by kernel_rfl) (Or.inl ⟨by rfl, fun w' hS => Or.inl ⟨w', ?_, hS⟩⟩) ?_
        rotate_left
        · go_simp
          all_goals with_reducible rfl
        simp only [Act.put, List.setIfInBounds_toArray, List.set_cons_zero, List.set_cons_succ]
        refine det_take (v := ?_) (i := 2) (fuel := 4) (by simp; rfl) (by kernel_rfl) (by kernel_rfl) (by kernel_rfl) (Or.inl ⟨by rfl, fun w' hS => Or.inl ⟨w', ?_, hS⟩⟩) ?_
        rotate_left
        · obtain ⟨⟨a0, a1⟩, _, _⟩ := hS.1.cells
          go_simp
          all_goals with_reducible rfl
        simp only [Act.put, List.setIfInBounds_toArray, List.set_cons_zero, List.set_cons_succ]
        refine det_take (v := ?_) (i := 3) (fuel := 3) (by simp; rfl) (by kernel_rfl) (by kernel_rfl) (by kernel_rfl) (Or.inl ⟨by rfl, fun w' hS => Or.inr ⟨14, #[.int .i64 (k : Int), .int .i64 (V : Int)], w', ?_, ?_⟩⟩) ?_
        rotate_left
        · go_simp
          all_goals with_reducible rfl
        · exact (HOF.out (V : Int) (V : Int) w' (by omega)).mono fun e w2 h => ⟨by rw [h.1], ⟨hS.1.below h.2, hS.2.below h.2⟩⟩
        simp only [Act.put, List.setIfInBounds_toArray, List.set_cons_zero, List.set_cons_succ]
        refine det_take (v := ?_) (i := 4) (fuel := 2) (by simp; rfl) (by kernel_rfl) (by kernel_rfl) (by kernel_rfl) (Or.inl ⟨by rfl, fun w' hS => Or.inl ⟨w', ?_, hS⟩⟩) ?_
        rotate_left
        · obtain ⟨⟨a0, a1⟩, _, _⟩ := hS.1.cells
          go_simp
          all_goals with_reducible rfl
        simp only [Act.put, List.setIfInBounds_toArray, List.set_cons_zero, List.set_cons_succ]
        refine det_take (v := ?_) (i := 5) (fuel := 1) (by simp; rfl) (by kernel_rfl) (by kernel_rfl) (by kernel_rfl) (Or.inl ⟨by rfl, fun w' hS => Or.inr ⟨13, #[.agg #[.int .u64 (P : Int), .int .i64 (V : Int)], .agg #[.int .u64 (N : Int), .int .i64 (V : Int)]], w', ?_, ?_⟩⟩) ?_
        rotate_left
        · go_simp
          all_goals with_reducible rfl
        · exact (HJB.out w').mono fun e w2 h => ⟨by rw [h.1], ⟨hS.1.below h.2, hS.2.below h.2⟩⟩
        simp only [Act.put, List.setIfInBounds_toArray, List.set_cons_zero, List.set_cons_succ]
        refine det_take (v := ?_) (i := 6) (fuel := 0) (by simp; rfl) (by kernel_rfl) (by kernel_rfl) (by kernel_rfl) (Or.inl ⟨by rfl, fun w' hS => Or.inl ⟨w', ?_, hS⟩⟩) ?_
        rotate_left
        · go_simp
          all_goals with_reducible rfl
        simp only [Act.put, List.setIfInBounds_toArray, List.set_cons_zero, List.set_cons_succ]
        refine det_done (by kernel_rfl) (fun V hV => ?_) _
        clear hcell
        go_wp2
        go_roundw
        case rel => exact ⟨c + 1, by omega, by go_num, by rw [HN.out]; exact hV.1, hV.2⟩
        case measure => simp [intOf]; omega
    · obtain rfl : c = L.length := by omega
      have hk := HK.out
      rw [HS.out] at hk
      clear HK
      have HK := Lib.hid hk
      clear hk
      have hlt' : ¬ (L.length : Int) < (L.length : Int) := by omega
      go_wp2_with fail
      (with_reducible refine (known8_c _).mono ?_)
      rintro e w5 ⟨rfl, hb⟩
      have HK5 := Lib.hid (HK.out.below hb)
      clear hb
      obtain ⟨⟨a0, a1⟩, ⟨b0, b1⟩, ⟨j0, j1⟩⟩ := HK5.out.cells
      go_wp2
      go_ret
      exact ⟨rfl, HK5.out.2.2.2.1⟩
end Go.Proofs.Ytpplledoankfgaa

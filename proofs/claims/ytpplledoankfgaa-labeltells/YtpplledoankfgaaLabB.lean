/- Package label: Members; the same of pyxref4, with has. -/
import Derived.Test.YtpplledoankfgaaLabA
import Derived.OwnWalk
namespace Go.Proofs.Ytpplledoankfgaa
open Go.RowKit
theorem info_int : (Try.prog.info? 3).map (fun i => (i.zero, i.size, i.bytes)) = some (some (.int .i64 0), 1, 8) := by kernel_rfl
theorem own_base {w : World} {base : Nat} {e : TypeId} {size n : Nat} {v : Value} {xs : List Value} (h : w.ownsRow base e size v n xs) : ∀ g, v.ownBlock = some g → base ≤ g := by
  intro g hg
  rcases h.2 with ⟨rfl, _⟩ | ⟨g', cap, cur, rfl, hb, _⟩
  · simp [Value.ownBlock] at hg
  · simp [Value.ownBlock] at hg; omega
def mkI (k : Nat) : Value := .int .i64 k
/-- A slice of ints that reads as L (nil reads as none). -/
def NsA (w : World) (A : Option Addr) (L : List Nat) : Prop := ∀ j, ∀ hj : j < L.length, ∃ g cur, A = some ⟨g, 0, none⟩ ∧ w.heap[g]? = some (.cells cur 3 (0, 0)) ∧ w.cell? ⟨g, j, none⟩ = some (.int .i64 (L[j] : Int))
theorem NsA.lt {w : World} {A : Option Addr} {L : List Nat} (h : NsA w A L) (j : Nat) (hj : j < L.length) : ∃ g, A = some ⟨g, 0, none⟩ ∧ g < w.heap.size ∧ w.cell? ⟨g, j, none⟩ = some (.int .i64 (L[j] : Int)) := by
  obtain ⟨g, cur, e, hh, hc⟩ := h j hj
  refine ⟨g, e, ?_, hc⟩
  rcases Nat.lt_or_ge g w.heap.size with c | c
  · exact c
  · rw [Array.getElem?_eq_none c] at hh; cases hh
theorem NsA.below {w w' : World} {A : Option Addr} {L : List Nat} (h : NsA w A L) (hb : Below w.heap.size w w') : NsA w' A L := fun j hj => by
  obtain ⟨g, cur, e, hh, hc⟩ := h j hj
  obtain ⟨g', e', hg, _⟩ := h.lt j hj
  rw [e] at e'
  injection e' with e'
  injection e' with e'
  subst e'
  exact ⟨g, cur, e, by rw [hb.block g hg]; exact hh, by rw [hb.cell hg]; exact hc⟩
theorem NsA.drew {w : World} {A : Option Addr} {L : List Nat} (h : NsA w A L) : NsA w.drew A L := h
theorem NsA.alloc {w : World} {A : Option Addr} {L : List Nat} (h : NsA w A L) (o : Obj) : NsA (w.alloc o) A L := h.below (bel_alloc (Below.refl _ _) o)
theorem ns_own {w : World} {base : Nat} {v : Value} {L : List Nat} (h : w.ownsRow base 3 1 v L.length (L.map mkI)) : ∃ A c, v = .slice A L.length c ∧ NsA w A L := by
  rcases h.2 with ⟨rfl, h0⟩ | ⟨g, cap, cur, rfl, hb, hh, hc, _, _, ht⟩
  · exact ⟨none, 0, by rw [h0], fun j hj => by omega⟩
  · refine ⟨_, cap, rfl, fun j hj => ⟨g, cur, rfl, hh, ?_⟩⟩
    have := h.cells (g := g) rfl j (mkI L[j]) (by simp [hj])
    by_cases hz : j = 0
    · subst hz; simpa [Addr.add, mkI] using this
    · simpa [Addr.add, hz, mkI] using this
/-- A slice of ints was returned that reads as L; what was there stays. -/
def RetNs (w : World) (L : List Nat) (e : Ending) (w' : World) : Prop := ∃ A c, e = .returned (.slice A L.length c) ∧ NsA w' A L ∧ Below w.heap.size w w'
def MemRel (W : World) (n : Nat) (g : Nat) (x : Int) (i v : Value) (wr : World) : Prop :=
  ∃ k : Nat, k ≤ 8 ∧ i = .int .i64 k ∧ wr.ownsRow W.heap.size 3 1 v (memK n k).length ((memK n k).map mkI) ∧ Below W.heap.size W wr ∧ wr.cell? ⟨g, 0, none⟩ = some (.int .u64 x)
theorem bit_yes {n k : Nat} {x : Int} (hn : n < 18446744073709551616) (hx : x = (n : Int)) (hk : k ≤ 8) : (bits .and .u64 x ((2 ^ k : Nat) : Int) == 0) = !(n.testBit k) := by
  rw [hx, and_bits hn (b := 2 ^ k) (by have := pow_all k (by omega); omega) rfl rfl]
  have h := bit_and n k
  cases e : n.testBit k
  · rw [h.2 e]; rfl
  · have : n &&& 2 ^ k ≠ 0 := fun g => by rw [h.1 g] at e; cases e
    simp only [Bool.not_true, beq_eq_false_iff_ne, ne_eq]
    omega
set_option maxRecDepth 100000 in
set_option maxHeartbeats 1600000 in
theorem members_c (n : Nat) (x v : Int) (w : World) (hx : x = (n : Int)) (hn : n < 18446744073709551616) : Calls Try.prog 9 #[.agg #[.int .u64 x, .int .i64 v]] w (RetNs w (memL n)) := by
  subst hx
  obtain ⟨i0, hi, hz0, hz1, hz2⟩ := info_parts info_int
  obtain ⟨W, hW⟩ : ∃ W, w.alloc (.cells #[.int .u64 (n : Int), .int .i64 v] 25) = W := ⟨_, rfl⟩
  have HW := Lib.hid (show Below w.heap.size w W from by rw [← hW]; exact bel_alloc (Below.refl _ _) _)
  have hc0 : W.cell? ⟨w.heap.size, 0, none⟩ = some (.int .u64 (n : Int)) := by rw [← hW]; simp
  have HL := Lib.hid (show w.heap.size < W.heap.size by rw [← hW]; simp)
  go_enter Try.func9, Try.ntmps9
  go_wp2_with fail
  clear hW
  go_loopw [5, 3] (fun i v wr => MemRel W n w.heap.size (n : Int) i v wr) (fun i _ _ => 8 - (intOf i).toNat)
  case atStart => exact ⟨0, by omega, rfl, World.ownsRow_nil _ _ _ _, Below.refl _ _, hc0⟩
  case round =>
    obtain ⟨k, hk, rfl, hown, hB, hc⟩ := hrel
    have HO := Lib.hid hown
    have HB := Lib.hid hB
    clear hown hB hc0
    by_cases hlt : k < 8
    · have hlt' : (k : Int) < 8 := by omega
      have hbit := bit_yes (k := k) hn rfl (by omega)
      cases ht : n.testBit k
      · skip
        have hN : bits .and .u64 (n : Int) ((2 ^ k : Nat) : Int) = 0 := by rw [ht] at hbit; simpa using hbit
        clear hbit
        obtain ⟨p, hp⟩ : ∃ p : Int, ((2 ^ k : Nat) : Int) = p := ⟨_, rfl⟩
        have RB := Lib.hid (fun w' => by have h := bit_c k (k : Int) w' rfl (by omega); rw [hp] at h; exact h)
        rw [hp] at hN
        clear hp
        go_wp2_with fail
        refine wp_region_det (S := fun V => V = wr.drew) (by kernel_rfl) rfl ?_
        refine det_take (v := ?_) (i := 0) (fuel := 5) (by simp; rfl) (by kernel_rfl) (by kernel_rfl) (by kernel_rfl) (Or.inl ⟨by rfl, fun w' hS => Or.inl ⟨w', ?_, hS⟩⟩) ?_
        rotate_left
        · obtain rfl := hS
          go_simp
          all_goals with_reducible rfl
        simp only [Act.put, List.setIfInBounds_toArray, List.set_cons_zero, List.set_cons_succ]
        refine det_take (v := ?_) (i := 1) (fuel := 4) (by simp; rfl) (by kernel_rfl) (by kernel_rfl) (by kernel_rfl) (Or.inl ⟨by rfl, fun w' hS => Or.inl ⟨w', ?_, hS⟩⟩) ?_
        rotate_left
        · obtain rfl := hS
          go_simp
          all_goals with_reducible rfl
        simp only [Act.put, List.setIfInBounds_toArray, List.set_cons_zero, List.set_cons_succ]
        refine det_take (v := ?_) (i := 2) (fuel := 3) (by simp; rfl) (by kernel_rfl) (by kernel_rfl) (by kernel_rfl) (Or.inl ⟨by rfl, fun w' hS => Or.inl ⟨w', ?_, hS⟩⟩) ?_
        rotate_left
        · obtain rfl := hS
          go_simp
          all_goals with_reducible rfl
        simp only [Act.put, List.setIfInBounds_toArray, List.set_cons_zero, List.set_cons_succ]
        refine det_take (v := ?_) (i := 3) (fuel := 2) (by simp; rfl) (by kernel_rfl) (by kernel_rfl) (by kernel_rfl) (Or.inl ⟨by rfl, fun w' hS => Or.inr ⟨28, #[.int .i64 (k : Int)], w', ?_, ?_⟩⟩) ?_
        rotate_left
        · go_simp
          all_goals with_reducible rfl
        · exact (RB.out w').mono fun e w2 h => ⟨by rw [h.1], h.2 ▸ hS⟩
        simp only [Act.put, List.setIfInBounds_toArray, List.set_cons_zero, List.set_cons_succ]
        refine det_take (v := ?_) (i := 4) (fuel := 1) (by simp; rfl) (by kernel_rfl) (by kernel_rfl) (by kernel_rfl) (Or.inl ⟨by rfl, fun w' hS => Or.inl ⟨w', ?_, hS⟩⟩) ?_
        rotate_left
        · obtain rfl := hS
          go_simp
          all_goals with_reducible rfl
        simp only [Act.put, List.setIfInBounds_toArray, List.set_cons_zero, List.set_cons_succ]
        refine det_take (v := ?_) (i := 5) (fuel := 0) (by simp; rfl) (by kernel_rfl) (by kernel_rfl) (by kernel_rfl) (Or.inl ⟨by rfl, fun w' hS => Or.inl ⟨w', ?_, hS⟩⟩) ?_
        rotate_left
        · obtain rfl := hS
          go_simp
          all_goals with_reducible rfl
        simp only [Act.put, List.setIfInBounds_toArray, List.set_cons_zero, List.set_cons_succ]
        refine det_done (by kernel_rfl) (fun V hV => ?_) _
        obtain rfl := hV
        go_wp2
        go_roundw
        case rel => exact ⟨k + 1, by omega, by go_num, by rw [memK_no ht]; exact HO.out.drew, HB.out.drew, hc⟩
        case measure => simp [intOf]; omega
      · skip
        have hN : bits .and .u64 (n : Int) ((2 ^ k : Nat) : Int) ≠ 0 := by rw [ht] at hbit; simpa using hbit
        clear hbit
        obtain ⟨p, hp⟩ : ∃ p : Int, ((2 ^ k : Nat) : Int) = p := ⟨_, rfl⟩
        have RB := Lib.hid (fun w' => by have h := bit_c k (k : Int) w' rfl (by omega); rw [hp] at h; exact h)
        rw [hp] at hN
        clear hp
        go_wp2_with fail
        refine wp_region_det (S := fun V => V = wr.drew) (by kernel_rfl) rfl ?_
        refine det_take (v := ?_) (i := 0) (fuel := 5) (by simp; rfl) (by kernel_rfl) (by kernel_rfl) (by kernel_rfl) (Or.inl ⟨by rfl, fun w' hS => Or.inl ⟨w', ?_, hS⟩⟩) ?_
        rotate_left
        · obtain rfl := hS
          go_simp
          all_goals with_reducible rfl
        simp only [Act.put, List.setIfInBounds_toArray, List.set_cons_zero, List.set_cons_succ]
        refine det_take (v := ?_) (i := 1) (fuel := 4) (by simp; rfl) (by kernel_rfl) (by kernel_rfl) (by kernel_rfl) (Or.inl ⟨by rfl, fun w' hS => Or.inl ⟨w', ?_, hS⟩⟩) ?_
        rotate_left
        · obtain rfl := hS
          go_simp
          all_goals with_reducible rfl
        simp only [Act.put, List.setIfInBounds_toArray, List.set_cons_zero, List.set_cons_succ]
        refine det_take (v := ?_) (i := 2) (fuel := 3) (by simp; rfl) (by kernel_rfl) (by kernel_rfl) (by kernel_rfl) (Or.inl ⟨by rfl, fun w' hS => Or.inl ⟨w', ?_, hS⟩⟩) ?_
        rotate_left
        · obtain rfl := hS
          go_simp
          all_goals with_reducible rfl
        simp only [Act.put, List.setIfInBounds_toArray, List.set_cons_zero, List.set_cons_succ]
        refine det_take (v := ?_) (i := 3) (fuel := 2) (by simp; rfl) (by kernel_rfl) (by kernel_rfl) (by kernel_rfl) (Or.inl ⟨by rfl, fun w' hS => Or.inr ⟨28, #[.int .i64 (k : Int)], w', ?_, ?_⟩⟩) ?_
        rotate_left
        · go_simp
          all_goals with_reducible rfl
        · exact (RB.out w').mono fun e w2 h => ⟨by rw [h.1], h.2 ▸ hS⟩
        simp only [Act.put, List.setIfInBounds_toArray, List.set_cons_zero, List.set_cons_succ]
        refine det_take (v := ?_) (i := 4) (fuel := 1) (by simp; rfl) (by kernel_rfl) (by kernel_rfl) (by kernel_rfl) (Or.inl ⟨by rfl, fun w' hS => Or.inl ⟨w', ?_, hS⟩⟩) ?_
        rotate_left
        · obtain rfl := hS
          go_simp
          all_goals with_reducible rfl
        simp only [Act.put, List.setIfInBounds_toArray, List.set_cons_zero, List.set_cons_succ]
        refine det_take (v := ?_) (i := 5) (fuel := 0) (by simp; rfl) (by kernel_rfl) (by kernel_rfl) (by kernel_rfl) (Or.inl ⟨by rfl, fun w' hS => Or.inl ⟨w', ?_, hS⟩⟩) ?_
        rotate_left
        · obtain rfl := hS
          go_simp
          all_goals with_reducible rfl
        simp only [Act.put, List.setIfInBounds_toArray, List.set_cons_zero, List.set_cons_succ]
        refine det_done (by kernel_rfl) (fun V hV => ?_) _
        obtain rfl := hV
        have hsz := HB.out.size
        have hlen := memK_le n k
        have HO2 := Lib.hid (HO.out.drew)
        have HB2 := Lib.hid (HB.out.drew)
        go_wp2_with (first
          | (at_builtin; refine wpList_append_own _ rfl _ _ 29 rfl W.heap.size 3 i0 (.int .i64 0) 1 8 Try.underlying29 hi hz0 hz1 hz2 rfl (by decide) _ _ _ rfl (HO2.out.alloc _) ⟨wr.heap.size, 0, none⟩ 1 1 [.int .i64 (k : Int)] rfl rfl ?c1 ?c2 ?c3 ?c4 ?c5 ?_)
          | go_in)
        case c1 =>
          intro j u hj
          match j, hj with
          | 0, hj => simp at hj; subst hj; simp [Addr.add]
        case c2 => intro u hu; simp at hu; subst hu; rfl
        case c3 => unfold maxLen; omega
        case c4 => omega
        case c5 => simp; omega
        · intro v' w1 hown' hgrow _
          have hB3 : Below W.heap.size W w1 := (HB2.out.alloc hsz _).grown hgrow (by simp; omega) (own_base HO2.out)
          have hc3 : w1.cell? ⟨w.heap.size, 0, none⟩ = some (.int .u64 (n : Int)) := by
            have hq := hB3.cell (p := ⟨w.heap.size, 0, none⟩) HL.out
            have hq2 := HB.out.cell (p := ⟨w.heap.size, 0, none⟩) HL.out
            rw [hq, ← hq2]
            exact hc
          have hown2 : w1.ownsRow W.heap.size 3 1 v' (memK n (k + 1)).length ((memK n (k + 1)).map mkI) := by
            rw [memK_yes ht, List.length_append, List.length_singleton, List.map_append]
            simpa [mkI] using hown'
          have HO3 := Lib.hid hown2
          have HB3 := Lib.hid hB3
          clear hown' hgrow hown2 hB3 hc
          go_wp2
          go_roundw
          case rel => exact ⟨k + 1, by omega, by go_num, HO3.out, HB3.out, hc3⟩
          case measure => simp [intOf]; omega
    · obtain rfl : k = 8 := by omega
      go_wp2
      go_ret
      obtain ⟨A, c, rfl, hA⟩ := ns_own HO.out
      exact ⟨A, c, rfl, hA, HW.out.trans (HB.out.mono (by have := HW.out.size; omega))⟩
theorem tmod_bit (n k : Nat) : (((n : Int) / 2 ^ k).tmod 2 == 1) = n.testBit k := by
  have e : ((n : Int) / 2 ^ k) = ((n / 2 ^ k : Nat) : Int) := by simp
  have e2 : (((n / 2 ^ k : Nat) : Int)).tmod 2 = ((n / 2 ^ k % 2 : Nat) : Int) := rfl
  rw [e, e2, Nat.testBit_eq_decide_div_mod_eq]
  by_cases h : n / 2 ^ k % 2 = 1
  · rw [h]; rfl
  · have : ¬ (((n / 2 ^ k % 2 : Nat) : Int) = 1) := by omega
    simp only [h, decide_false]
    simpa using this
theorem has_c (n k : Nat) (x y : Int) (w : World) (hx : x = (n : Int)) (hy : y = (k : Int)) (hk : k < 64) : Calls Try.prog 30 #[.int .u64 x, .int .i64 y] w fun e w' => e = .returned (.bool (n.testBit k)) ∧ w = w' := by
  subst hx hy
  have hk' : (k : Int) < 64 := by omega
  have h0 : (0 : Int) ≤ (k : Int) := by omega
  have hb := tmod_bit n k
  go_enter Try.func30, Try.ntmps30
  go_wp2
  go_ret
  exact ⟨by rw [← hb]; simp, rfl⟩
set_option maxRecDepth 100000 in
set_option maxHeartbeats 1600000 in
theorem rmembers_c (n : Nat) (x v : Int) (w : World) (hx : x = (n : Int)) : Calls Try.prog 21 #[.agg #[.int .u64 x, .int .i64 v]] w (RetNs w (memL n)) := by
  subst hx
  obtain ⟨i0, hi, hz0, hz1, hz2⟩ := info_parts info_int
  obtain ⟨W, hW⟩ : ∃ W, w.alloc (.cells #[.int .u64 (n : Int), .int .i64 v] 25) = W := ⟨_, rfl⟩
  have HW := Lib.hid (show Below w.heap.size w W from by rw [← hW]; exact bel_alloc (Below.refl _ _) _)
  have hc0 : W.cell? ⟨w.heap.size, 0, none⟩ = some (.int .u64 (n : Int)) := by rw [← hW]; simp
  have HL := Lib.hid (show w.heap.size < W.heap.size by rw [← hW]; simp)
  go_enter Try.func21, Try.ntmps21
  go_wp2_with fail
  clear hW
  go_loopw [4, 3] (fun i v wr => MemRel W n w.heap.size (n : Int) i v wr) (fun i _ _ => 8 - (intOf i).toNat)
  case atStart => exact ⟨0, by omega, rfl, World.ownsRow_nil _ _ _ _, Below.refl _ _, hc0⟩
  case round =>
    obtain ⟨k, hk, rfl, hown, hB, hc⟩ := hrel
    have HO := Lib.hid hown
    have HB := Lib.hid hB
    clear hown hB hc0
    by_cases hlt : k < 8
    · have hlt' : (k : Int) < 8 := by omega
      have RH := Lib.hid (fun w' => has_c n k (n : Int) (k : Int) w' rfl rfl (by omega))
      cases ht : n.testBit k
      · rw [ht] at RH
        go_wp2_with fail
        (with_reducible refine (RH.out _).mono ?_)
        rintro e w' ⟨rfl, rfl⟩
        go_wp2
        go_roundw
        case rel => exact ⟨k + 1, by omega, by go_num, by rw [memK_no ht]; exact HO.out, HB.out, hc⟩
        case measure => simp [intOf]; omega
      · rw [ht] at RH
        go_wp2_with fail
        (with_reducible refine (RH.out _).mono ?_)
        rintro e w' ⟨rfl, rfl⟩
        have hsz := HB.out.size
        have hlen := memK_le n k
        have HO2 := Lib.hid (HO.out)
        have HB2 := Lib.hid (HB.out)
        go_wp2_with (first
          | (at_builtin; refine wpList_append_own _ rfl _ _ 29 rfl W.heap.size 3 i0 (.int .i64 0) 1 8 Try.underlying29 hi hz0 hz1 hz2 rfl (by decide) _ _ _ rfl (HO2.out.alloc _) ⟨wr.heap.size, 0, none⟩ 1 1 [.int .i64 (k : Int)] rfl rfl ?c1 ?c2 ?c3 ?c4 ?c5 ?_)
          | go_in)
        case c1 =>
          intro j u hj
          match j, hj with
          | 0, hj => simp at hj; subst hj; simp [Addr.add]
        case c2 => intro u hu; simp at hu; subst hu; rfl
        case c3 => unfold maxLen; omega
        case c4 => omega
        case c5 => simp; omega
        · intro v' w1 hown' hgrow _
          have hB3 : Below W.heap.size W w1 := (HB2.out.alloc hsz _).grown hgrow (by simp; omega) (own_base HO2.out)
          have hc3 : w1.cell? ⟨w.heap.size, 0, none⟩ = some (.int .u64 (n : Int)) := by
            have hq := hB3.cell (p := ⟨w.heap.size, 0, none⟩) HL.out
            have hq2 := HB.out.cell (p := ⟨w.heap.size, 0, none⟩) HL.out
            rw [hq, ← hq2]
            exact hc
          have hown2 : w1.ownsRow W.heap.size 3 1 v' (memK n (k + 1)).length ((memK n (k + 1)).map mkI) := by
            rw [memK_yes ht, List.length_append, List.length_singleton, List.map_append]
            simpa [mkI] using hown'
          have HO3 := Lib.hid hown2
          have HB3 := Lib.hid hB3
          clear hown' hgrow hown2 hB3 hc
          go_wp2
          go_roundw
          case rel => exact ⟨k + 1, by omega, by go_num, HO3.out, HB3.out, hc3⟩
          case measure => simp [intOf]; omega
    · obtain rfl : k = 8 := by omega
      go_wp2
      go_ret
      obtain ⟨A, c, rfl, hA⟩ := ns_own HO.out
      exact ⟨A, c, rfl, hA, HW.out.trans (HB.out.mono (by have := HW.out.size; omega))⟩
end Go.Proofs.Ytpplledoankfgaa

/- Lists of parents out of raw numbers: parents; known. -/
import Derived.Test.YtiocmkaplblelaaRoleC
import Derived.Test.YtiocmkaplblelaaIntsA
import Derived.Test.YtiocmkaplblelaaBlk
namespace Go.Proofs.Ytiocmkaplblelaa
open Go.RowKit

/-- A row of ints of the call's own reads as its list. -/
theorem il_own {w : World} {base n : Nat} {v : Value} {L : List Int} (h : w.ownsRow base 3 1 v n (L.map zV)) : ∃ A c, v = .slice A n c ∧ IL w w.heap.size A n c L ∧ ∀ g o, A = some ⟨g, o, none⟩ → base ≤ g ∧ o = 0 ∧ ∀ j, w.frozen? ⟨g, j, none⟩ = false := by
  have hl : L.length = n := by have := h.1; rw [List.length_map] at this; omega
  rcases h.2 with ⟨rfl, h0⟩ | ⟨g, cap, cur, rfl, hb, hh, hc, _, _, ht⟩
  · exact ⟨none, 0, by rw [h0], ⟨hl, by omega, fun g => by omega⟩, fun _ _ e => by cases e⟩
  · have hlt : g < w.heap.size := by
      rcases Nat.lt_or_ge g w.heap.size with c | c
      · exact c
      · rw [Array.getElem?_eq_none c] at hh; cases hh
    refine ⟨_, cap, rfl, ⟨hl, hc, fun _ => ⟨g, 0, rfl, hlt, fun j hj => ?_⟩⟩, fun g' o' e => ?_⟩
    · have := h.cells (g := g) rfl j (zV (L.getD j 0)) (by rw [List.getElem?_map, getD_some (by omega)]; rfl)
      rw [Addr.add_lit] at this
      exact this
    · injection e with e
      injection e with e1 e2
      subst e1
      exact ⟨hb, e2.symm, fun j => Blk.frozen (show Blk w g 3 cur from hh) j⟩
/-- Each -1, or below its own number. -/
def GoodL (L : List Int) : Prop := ∀ (i : Nat) (x : Int), L[i]? = some x → -1 ≤ x ∧ x < (i : Int)
theorem GoodL.nil_ : GoodL [] := fun i x e => by simp at e
theorem GoodL.snoc {L : List Int} (h : GoodL L) {x : Int} (h1 : -1 ≤ x) (h2 : x < (L.length : Int)) : GoodL (L ++ [x]) := by
  intro i y e
  rcases Nat.lt_or_ge i L.length with g | g
  · rw [List.getElem?_append_left g] at e
    exact h i y e
  · rw [List.getElem?_append_right g] at e
    rcases Nat.lt_or_ge i (L.length + 1) with g2 | g2
    · obtain rfl : i = L.length := by omega
      rw [Nat.sub_self] at e
      obtain rfl := Option.some.inj e
      exact ⟨h1, h2⟩
    · rw [List.getElem?_eq_none (by simp; omega)] at e
      cases e
theorem GoodL.take {L : List Int} (h : GoodL L) (k : Nat) : GoodL (L.take k) := by
  intro i x e
  rw [List.getElem?_take] at e
  split at e
  · exact h i x e
  · cases e
theorem GoodL.right {L : List Int} (h : GoodL L) (h8 : L.length ≤ 8) : rightL L = true := rightL_iff.2 ⟨h8, h⟩
/-- A store into it. -/
theorem IL.set_ {w : World} {B n c g o k : Nat} {L : List Int} (h : IL w B (some ⟨g, o, none⟩) n c L) (hk : k < n) (y : Int) : IL (w.setCell ⟨g, o + k, none⟩ (.int .i64 y)) B (some ⟨g, o, none⟩) n c (L.set k y) := by
  refine ⟨by rw [List.length_set, h.1], h.2.1, fun h0 => ?_⟩
  obtain ⟨g', o', e, hg, hc⟩ := h.2.2 h0
  injection e with e
  injection e with e1 e2
  subst e1 e2
  refine ⟨g, o, rfl, hg, fun j hj => ?_⟩
  by_cases hjk : j = k
  · subst hjk
    rw [World.cell?_setCell_same _ _ _ (hc j hj), List.getD_eq_getElem?_getD, List.getElem?_set_self (by rw [h.1]; exact hk)]
    rfl
  · rw [World.cell?_setCell_other _ _ _ _ (by intro e; injection e with _ e; omega), hc j hj, List.getD_eq_getElem?_getD, List.getD_eq_getElem?_getD, List.getElem?_set_ne (by omega)]
def ParRel (w : World) (n : Nat) (v i : Value) (wr : World) : Prop :=
  ∃ (k : Nat) (L : List Int), k ≤ n ∧ k ≤ 10 ∧ i = .int .i64 k ∧ wr.ownsRow w.heap.size 3 1 v k (L.map zV) ∧ L.length = k ∧ GoodL L ∧ Below w.heap.size w wr
set_option maxRecDepth 100000 in
set_option maxHeartbeats 1600000 in
theorem parents_c (A : Option Addr) (n c : Nat) (xs : List Int) (b : Int) (w : World) (h : IL w w.heap.size A n c xs) (hn : n ≤ 9223372036854775807) (hb1 : -9223372036854775808 ≤ b) (hb2 : b ≤ 9223372036854775807) :
    Calls Try.prog 11 #[.slice A n c, .int .i64 b] w fun e w' => ∃ A' n' c' L, e = .returned (.slice A' n' c') ∧ IL w' w'.heap.size A' n' c' L ∧ n' ≤ 10 ∧ (b = 0 → GoodL L) ∧ Below w.heap.size w w' := by
  obtain ⟨i0, hi, hz0, hz1, hz2⟩ := info_parts info_int
  have HL := Lib.hid h
  clear h
  go_enter Try.func11, Try.ntmps11
  go_wp2
  go_loopw [5, 6] (fun v i wr => ParRel w n v i wr) (fun _ i _ => 10 - (intOf i).toNat)
  case atStart => exact ⟨0, [], by omega, by omega, rfl, World.ownsRow_nil _ _ _ _, rfl, GoodL.nil_, Below.refl _ _⟩
  case round =>
    obtain ⟨k, L, hk, hk10, rfl, hown, hlen, hgood, hB⟩ := hrel
    have HO := Lib.hid hown
    have HB := Lib.hid hB
    have HG := Lib.hid hgood
    clear hown hB hgood
    by_cases hlt : k < n ∧ k < 10
    · obtain ⟨hlt1, hlt2⟩ := hlt
      have hlt1' : (k : Int) < (n : Int) := by omega
      obtain ⟨g, o, rfl, hgb, hc, _⟩ := (HL.out.below HB.out).at_ hlt1
      obtain ⟨x, hx⟩ : ∃ x, xs.getD k 0 = x := ⟨_, rfl⟩
      rw [hx] at hc
      clear hx
      go_wp2_with fail
      (with_reducible refine (pickB x ((k : Int) + 1) _ (by omega) (by omega)).mono ?_)
      rintro e w' ⟨m, hm, rfl, rfl⟩
      have hsz := HB.out.size
      go_wp2_with (first
        | (at_builtin; refine wpList_append_own _ rfl _ _ 22 rfl w.heap.size 3 i0 (.int .i64 0) 1 8 Try.underlying22 hi hz0 hz1 hz2 rfl (by decide) _ _ _ rfl (HO.out.alloc _) ⟨wr.heap.size, 0, none⟩ 1 1 [.int .i64 ((m : Int) - 1)] rfl rfl ?c1 ?c2 ?c3 ?c4 ?c5 ?_)
        | go_in)
      case c1 =>
        intro j u hj
        match j, hj with
        | 0, hj => simp at hj; subst hj; simp [Addr.add]
      case c2 => intro u hu; simp at hu; subst hu; rfl
      case c3 => unfold maxLen; omega
      case c4 => omega
      case c5 => simp; omega
      · intro v' w1 hown' hgrow _
        have hB3 : Below w.heap.size w w1 := (HB.out.alloc hsz _).grown hgrow (by simp; omega) (own_base HO.out)
        have hown2 : w1.ownsRow w.heap.size 3 1 v' (k + 1) ((L ++ [(m : Int) - 1]).map zV) := by
          rw [List.map_append]
          simpa [zV] using hown'
        have HO3 := Lib.hid hown2
        have HB3 := Lib.hid hB3
        have HG3 := Lib.hid (HG.out.snoc (x := (m : Int) - 1) (by omega) (by omega))
        clear hown' hgrow hown2 hB3 hc
        go_wp2
        go_roundw
        case rel => exact ⟨k + 1, _, by omega, by omega, by go_num, HO3.out, by simp [hlen], HG3.out, HB3.out⟩
        case measure => simp [intOf]; omega
    · obtain ⟨A', c', rfl, hIL, hfz⟩ := il_own HO.out
      by_cases hkn : k < n
      · have hkn' : (k : Int) < (n : Int) := by omega
        have hkn2 : ¬ (k : Int) < 10 := by omega
        by_cases hk0 : 0 < k
        · have hk01 : (0 : Int) < (k : Int) := by omega
          obtain ⟨t, ht⟩ : ∃ t, b.tmod 5 = t := ⟨_, rfl⟩
          by_cases ht4 : t = 4
          · subst ht4
            obtain ⟨g', o', rfl, _⟩ := hIL.2.2 hk0
            obtain ⟨hg', rfl, hfr⟩ := hfz _ _ rfl
            have hcell : ∀ j : Nat, j < k → wr.cell? ⟨g', j, none⟩ = some (.int .i64 (L.getD j 0)) := fun j hj => by
              obtain ⟨g2, o2, e, _, h3, _⟩ := hIL.at_ hj
              injection e with e
              injection e with e1 e2
              subst e1 e2
              rw [Nat.zero_add] at h3
              exact h3
            have HI := Lib.hid hIL
            have hb5 : b ≠ 0 := by rintro rfl; simp at ht
            clear hIL hfz
            go_wp2_with fail
            (with_reducible refine (pickB b (k : Int) _ (by omega) (by omega)).mono ?_)
            rintro e w' ⟨m, hm, rfl, rfl⟩
            have hcm := hcell m (by omega)
            have hfm := hfr m
            have hm' : m < k := by omega
            clear hcell hfr
            go_wp2_with fail
            (with_reducible refine (pickB _ 13 _ (by omega) (by omega)).mono ?_)
            rintro e w' ⟨m2, hm2, rfl, rfl⟩
            go_wp2
            go_ret
            have hset := HI.out.set_ hm' ((m2 : Int) - 3)
            rw [Nat.zero_add] at hset
            exact ⟨_, _, _, _, rfl, hset.more (by simp), hk10, fun e => absurd e hb5, HB.out.setCell hg' _⟩
          · have ht' : (t == 4) = false := by simp; omega
            go_wp2
            go_ret
            exact ⟨_, _, _, rfl, L, hIL, hk10, fun _ => HG.out, HB.out⟩
        · have hk00 : ¬ (0 : Int) < (k : Int) := by omega
          go_wp2
          go_ret
          exact ⟨_, _, _, rfl, L, hIL, hk10, fun _ => HG.out, HB.out⟩
      · have hkn' : ¬ (k : Int) < (n : Int) := by omega
        by_cases hk0 : 0 < k
        · have hk01 : (0 : Int) < (k : Int) := by omega
          obtain ⟨t, ht⟩ : ∃ t, b.tmod 5 = t := ⟨_, rfl⟩
          by_cases ht4 : t = 4
          · subst ht4
            obtain ⟨g', o', rfl, _⟩ := hIL.2.2 hk0
            obtain ⟨hg', rfl, hfr⟩ := hfz _ _ rfl
            have hcell : ∀ j : Nat, j < k → wr.cell? ⟨g', j, none⟩ = some (.int .i64 (L.getD j 0)) := fun j hj => by
              obtain ⟨g2, o2, e, _, h3, _⟩ := hIL.at_ hj
              injection e with e
              injection e with e1 e2
              subst e1 e2
              rw [Nat.zero_add] at h3
              exact h3
            have HI := Lib.hid hIL
            have hb5 : b ≠ 0 := by rintro rfl; simp at ht
            clear hIL hfz
            go_wp2_with fail
            (with_reducible refine (pickB b (k : Int) _ (by omega) (by omega)).mono ?_)
            rintro e w' ⟨m, hm, rfl, rfl⟩
            have hcm := hcell m (by omega)
            have hfm := hfr m
            have hm' : m < k := by omega
            clear hcell hfr
            go_wp2_with fail
            (with_reducible refine (pickB _ 13 _ (by omega) (by omega)).mono ?_)
            rintro e w' ⟨m2, hm2, rfl, rfl⟩
            go_wp2
            go_ret
            have hset := HI.out.set_ hm' ((m2 : Int) - 3)
            rw [Nat.zero_add] at hset
            exact ⟨_, _, _, _, rfl, hset.more (by simp), hk10, fun e => absurd e hb5, HB.out.setCell hg' _⟩
          · have ht' : (t == 4) = false := by simp; omega
            go_wp2
            go_ret
            exact ⟨_, _, _, rfl, L, hIL, hk10, fun _ => HG.out, HB.out⟩
        · have hk00 : ¬ (0 : Int) < (k : Int) := by omega
          go_wp2
          go_ret
          exact ⟨_, _, _, rfl, L, hIL, hk10, fun _ => HG.out, HB.out⟩
end Go.Proofs.Ytiocmkaplblelaa

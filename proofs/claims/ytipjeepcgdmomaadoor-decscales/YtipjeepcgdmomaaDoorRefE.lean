/- Package pyxref1: CmpNat. -/
import Derived.Test.YtipjeepcgdmomaaDoorRefD
import Derived.Deep.QuietTactic
import Derived.BigQuiet
namespace Go.Proofs.YtipjeepcgdmomaaDoor
open Go.RowKit

theorem dv_lt {l : List Nat} (h : ∀ d ∈ l, d < 10) : dv l < 10 ^ l.length := by
  induction l with
  | nil => simp [dv]
  | cons x l ih =>
    have h1 := ih fun d hd => h d (List.mem_cons_of_mem _ hd)
    have h2 := h x (List.mem_cons_self ..)
    simp only [dv, List.length_cons, Nat.pow_succ]
    omega
theorem dv_append (a b : List Nat) : dv (a ++ b) = dv a + 10 ^ a.length * dv b := by
  induction a with
  | nil => simp [dv]
  | cons x a ih =>
    simp only [List.cons_append, dv, ih, List.length_cons, Nat.pow_succ]
    rw [Nat.mul_add, Nat.mul_comm (10 ^ a.length) 10, Nat.mul_assoc]
    omega
theorem dv_split (a : List Nat) (k : Nat) (hk : k ≤ a.length) : dv a = dv (a.take k) + 10 ^ k * dv (a.drop k) := by
  have h := dv_append (a.take k) (a.drop k)
  rw [List.take_append_drop, List.length_take, Nat.min_eq_left hk] at h
  exact h
theorem dv_drop (a : List Nat) (k : Nat) (hk : k < a.length) : dv (a.drop k) = a.getD k 0 + 10 * dv (a.drop (k + 1)) := by
  rw [List.drop_eq_getElem_cons hk]
  simp [dv, List.getD_eq_getElem?_getD, hk]
/-- The shorter one is less. -/
theorem dv_shorter {a b : List Nat} (ha : ∀ d ∈ a, d < 10) (hb : Norm b) (h : a.length < b.length) : dv a < dv b := by
  rcases hb with rfl | hb
  · simp at h
  · have h0 : b ≠ [] := by intro e; subst e; simp at h
    have h1 := dv_ge h0 hb
    have h2 := dv_lt ha
    have h3 : 10 ^ a.length ≤ 10 ^ (b.length - 1) := Nat.pow_le_pow_right (by decide) (by omega)
    omega
theorem len_le {a b : List Nat} (ha : ∀ d ∈ a, d < 10) (hb : Norm b) (h : dv b ≤ dv a) : b.length ≤ a.length := by
  rcases Nat.lt_or_ge a.length b.length with c | c
  · have := dv_shorter ha hb c; omega
  · exact c
/-- The first digit from above that is less. -/
theorem dv_first {a b : List Nat} {p : Nat} (ha : ∀ d ∈ a, d < 10) (hl : a.length = b.length) (hp : p < a.length) (he : a.drop (p + 1) = b.drop (p + 1)) (hlt : a.getD p 0 < b.getD p 0) : dv a < dv b := by
  have h1 := dv_split a p (by omega)
  have h2 := dv_split b p (by omega)
  rw [dv_drop a p hp] at h1
  rw [dv_drop b p (by omega), ← he] at h2
  have h3 : dv (a.take p) < 10 ^ p := by
    have := dv_lt (l := a.take p) fun d hd => ha d (List.mem_of_mem_take hd)
    rwa [List.length_take, Nat.min_eq_left (by omega)] at this
  have h4 : 10 ^ p * (a.getD p 0 + 10 * dv (a.drop (p + 1))) + 10 ^ p ≤ 10 ^ p * (b.getD p 0 + 10 * dv (a.drop (p + 1))) := by
    rw [← Nat.mul_succ]
    exact Nat.mul_le_mul_left _ (by omega)
  omega
theorem bel_drewN {B : Nat} {a w : World} (h : Below B a w) (n : Nat) : Below B a (w.drewN n) := ⟨h.os, h.tape, h.output, h.size, h.block⟩
theorem ret_at {n k : Int} (h : n = k) : IsInt n (.int .i64 k) := by rw [IsInt, h]
theorem cmpI_gt {m n : Nat} (h : n < m) : cmpI m n = 1 := by
  unfold cmpI
  rw [if_neg (by omega), if_neg (by omega)]
theorem cmpI_eq {m n : Nat} (h : m = n) : cmpI m n = 0 := by
  unfold cmpI
  rw [if_pos h]
theorem drop_eq_s {a b : List Nat} {p : Nat} (ha : p < a.length) (hb : p < b.length) (h : a.drop (p + 1) = b.drop (p + 1)) (he : a.getD p 0 = b.getD p 0) : a.drop p = b.drop p := by
  rw [List.drop_eq_getElem_cons ha, List.drop_eq_getElem_cons hb, h]
  simp [List.getD_eq_getElem?_getD, ha, hb] at he
  rw [he]

def CmpRel (a b : List Nat) (n : Nat) (s : Value) : Prop := ∃ q : Int, -1 ≤ q ∧ q < n ∧ s = .int .i64 q ∧ a.drop (q + 1).toNat = b.drop (q + 1).toNat

set_option maxHeartbeats 1600000 in
theorem cmpNat_c (A B : Option Addr) (n m ca cb : Nat) (a b : List Nat) (w : World) (ha : DigC w A n ca a) (hb : DigC w B m cb b) (na : Norm a) (nb : Norm b) :
    Calls Tryd.prog 42 #[.slice A n ca, .slice B m cb] w (Ret w (IsInt (cmpI (dv a) (dv b)))) := by
  have la := ha.1
  have lb := hb.1
  have da := ha.2.2.2.1
  have db := hb.2.2.2.1
  have hn6 := ha.2.2.1
  have hm6 := hb.2.2.1
  by_cases hnm : n = m
  · subst hnm
    have g1 : ((n : Int) != (n : Int)) = false := by simp
    have LA := Lib.hid la
    have LB := Lib.hid lb
    have DA := Lib.hid da
    have DB := Lib.hid db
    have HA := Lib.hid ha
    have HB_ := Lib.hid hb
    clear la lb da db ha hb na nb
    go_enter Tryd.func42, Tryd.ntmps42
    go_wp2
    go_loopw [5] (fun s wr => CmpRel a b n s ∧ Below w.heap.size w wr) (fun s _ => (intOf s + 1).toNat)
    case atStart => exact ⟨⟨(n : Int) - 1, by omega, by omega, rfl, by rw [List.drop_of_length_le (by rw [LA.out]; omega), List.drop_of_length_le (by rw [LB.out]; omega)]⟩, Below.refl _ _⟩
    case round =>
      obtain ⟨⟨q, hq1, hq2, rfl, hdr⟩, HB⟩ := hrel
      have HDR := Lib.hid hdr
      clear hdr
      by_cases hq : 0 ≤ q
      · obtain ⟨p, rfl⟩ : ∃ p : Nat, q = p := ⟨q.toNat, by omega⟩
        have hp : p < n := by omega
        obtain ⟨b1, o1, hA, hlt1, hc1⟩ := (HA.out.below HB).2.2.2.2 (by omega)
        obtain ⟨b2, o2, hB, hlt2, hc2⟩ := (HB_.out.below HB).2.2.2.2 (by omega)
        have c1 := hc1 p hp
        have c2 := hc2 p hp
        obtain ⟨x, hx⟩ : ∃ x, a.getD p 0 = x := ⟨_, rfl⟩
        obtain ⟨y, hy⟩ : ∃ y, b.getD p 0 = y := ⟨_, rfl⟩
        have HX := Lib.hid hx
        have HY := Lib.hid hy
        rw [hx] at c1
        rw [hy] at c2
        have e1 : ((p : Int) + 1).toNat = p + 1 := by omega
        rw [e1] at HDR
        clear hc1 hc2 hx hy e1
        subst hA
        subst hB
        have hpi : (p : Int) < (n : Int) := by omega
        by_cases hxy : x < y
        · have E : cmpI (dv a) (dv b) = -1 := cmpI_lt (dv_first DA.out (by rw [LA.out, LB.out]) (by rw [LA.out]; omega) HDR.out (by rw [HX.out, HY.out]; exact hxy))
          have HE := Lib.hid E
          clear E
          go_wp2
          go_quiet (fail)
          go_wp2
          go_ret
          exact ⟨_, ret_at HE.out, rfl, bel_drewN HB _⟩
        · by_cases hyx : y < x
          · have E : cmpI (dv a) (dv b) = 1 := cmpI_gt (dv_first DB.out (by rw [LA.out, LB.out]) (by rw [LB.out]; omega) HDR.out.symm (by rw [HX.out, HY.out]; exact hyx))
            have HE := Lib.hid E
            clear E
            go_wp2
            go_quiet (fail)
            go_wp2
            go_quiet (fail)
            go_wp2
            go_ret
            exact ⟨_, ret_at HE.out, rfl, bel_drewN (bel_drewN HB _) _⟩
          · have HD2 := Lib.hid (drop_eq_s (by rw [LA.out]; omega) (by rw [LB.out]; omega) HDR.out (by rw [HX.out, HY.out]; omega))
            go_wp2
            go_quiet (fail)
            go_wp2
            go_quiet (fail)
            go_wp2
            go_roundw
            case rel => exact ⟨⟨(p : Int) - 1, by omega, by omega, rfl, by rw [show ((p : Int) - 1 + 1).toNat = p by omega]; exact HD2.out⟩, bel_drewN HB _⟩
            case measure => simp [intOf]
      · obtain rfl : q = -1 := by omega
        have E : cmpI (dv a) (dv b) = 0 := by
          have := HDR.out
          simp at this
          rw [this]
          exact cmpI_eq rfl
        have HE := Lib.hid E
        clear E
        go_wp2
        go_ret
        exact ⟨_, ret_at HE.out, rfl, HB⟩
  · have g1 : ((n : Int) != (m : Int)) = true := by simp; omega
    by_cases hlt : n < m
    · have E : cmpI (dv a) (dv b) = -1 := cmpI_lt (dv_shorter da nb (by omega))
      rw [E]
      clear la lb da db ha hb na nb E hnm
      go_enter Tryd.func42, Tryd.ntmps42
      go_wp2
      go_ret
      exact ⟨_, rfl, rfl, Below.refl _ _⟩
    · have E : cmpI (dv a) (dv b) = 1 := cmpI_gt (dv_shorter db na (by omega))
      rw [E]
      clear la lb da db ha hb na nb E hnm
      go_enter Tryd.func42, Tryd.ntmps42
      go_wp2
      go_ret
      exact ⟨_, rfl, rfl, Below.refl _ _⟩
end Go.Proofs.YtipjeepcgdmomaaDoor

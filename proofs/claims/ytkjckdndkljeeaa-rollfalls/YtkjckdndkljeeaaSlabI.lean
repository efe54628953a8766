/- Package slab, and its other in pyxref4, as one state told twice. -/
import Derived.Test.YtkjckdndkljeeaaSlabE
namespace Go.Proofs.Ytkjckdndkljeeaa
open Go.RowKit
/-- What a slab knows. -/
structure Sst where
  l : List UInt8
  k : Int
  dead : Bool
  cut : Bool
  left : Int
  torn : Int
/-- It may be met. -/
def Sst.Ok (s : Sst) (n : Nat) (K : Int) : Prop := s.l.length = n ∧ 0 ≤ s.k ∧ s.k ≤ K ∧ (s.cut = true → 0 ≤ s.left ∧ s.left ≤ 9223372036854775807)
def SlS (w : World) (g d n : Nat) (s : Sst) : Prop := Sl w g d n s.l s.k s.dead s.cut s.left s.torn
def RsS (w : World) (g d n : Nat) (s : Sst) : Prop := Rs w g d n s.l (if s.cut then s.left else -1) s.torn s.dead s.k
/-- What a Write leaves, and what it answers. -/
def wrS (s : Sst) (n : Nat) (a : Int) (b : List UInt8) : Sst × Bool :=
  if okB s.dead a (b.length : Int) n = true then
    (if s.cut = true ∧ s.left = 0 then ({ s with l := spl s.l a.toNat (b.take (min (max s.torn 0) (b.length : Int)).toNat), k := s.k + 1, dead := true }, false)
     else ({ s with l := spl s.l a.toNat b, k := s.k + 1, left := if s.cut then s.left - 1 else s.left }, true))
  else (s, false)
theorem okB_yes {dead : Bool} {a m : Int} {n : Nat} (h : okB dead a m n = true) : dead = false ∧ 0 ≤ a ∧ 0 ≤ m ∧ m ≤ (n : Int) - a := by
  unfold okB at h
  simp at h
  exact ⟨h.1.1.1, h.1.1.2, h.1.2, h.2⟩
theorem wrS_ok {s : Sst} {n : Nat} {K : Int} (h : s.Ok n K) (a : Int) (b : List UInt8) : (wrS s n a b).1.Ok n (K + 1) := by
  obtain ⟨h1, h2, h3, h4⟩ := h
  unfold wrS
  by_cases ho : okB s.dead a (b.length : Int) n = true
  · obtain ⟨o1, o2, o3, o4⟩ := okB_yes ho
    rw [if_pos ho]
    by_cases hc : s.cut = true ∧ s.left = 0
    · rw [if_pos hc]
      refine ⟨spl_len h1 (by rw [List.length_take]; omega), by simp only; omega, by simp only; omega, h4⟩
    · rw [if_neg hc]
      refine ⟨spl_len h1 (by omega), by simp only; omega, by simp only; omega, fun e => ?_⟩
      simp only at e ⊢
      have := h4 e
      rw [if_pos e]
      have hl : s.left ≠ 0 := fun e0 => hc ⟨e, e0⟩
      omega
  · rw [if_neg ho]
    exact ⟨h1, h2, (show s.k ≤ K + 1 by omega), h4⟩
section
variable {w w' : World} {g d n : Nat} {s : Sst}
theorem SlS.but {ex : List Nat} (h : SlS w g d n s) (hb : But ex w w') (hg : g ∉ ex) (hd : d ∉ ex) : SlS w' g d n s := Sl.but h hb hg hd
theorem RsS.but {ex : List Nat} (h : RsS w g d n s) (hb : But ex w w') (hg : g ∉ ex) (hd : d ∉ ex) : RsS w' g d n s := Rs.but h hb hg hd
theorem SlS.below (h : SlS w g d n s) (hb : Below w.heap.size w w') : SlS w' g d n s := Sl.below h hb
theorem RsS.below (h : RsS w g d n s) (hb : Below w.heap.size w w') : RsS w' g d n s := Rs.below h hb
theorem SlS.lt (h : SlS w g d n s) : g < w.heap.size ∧ d < w.heap.size := Sl.lt h
theorem RsS.lt (h : RsS w g d n s) : g < w.heap.size ∧ d < w.heap.size := ⟨h.1.lt, Blk.lt h.2.1⟩
theorem refNew_e (n : Int) (m : Nat) (w : World) (hm : min (max n 1) 65536 = (m : Int)) :
    Calls Try.prog 18 #[.int .i64 n] w fun e w' => ∃ g d, e = .returned (.pointer (some ⟨g, 0, none⟩)) ∧ RsS w' g d m ⟨List.replicate m 0, 0, false, false, 0, 0⟩ ∧ w.heap.size ≤ g ∧ w.heap.size ≤ d ∧ Below w.heap.size w w' :=
  (refNew_c n m w hm).mono fun e w' ⟨he, hs, hb⟩ => ⟨_, _, he, hs, by omega, Nat.le_refl _, hb⟩
theorem write_all (a : Int) (A : Option Addr) (m c : Nat) (b : List UInt8) (K : Int) (h : SlS w g d n s) (hb : Bs w w.heap.size A m c b) (ho : s.Ok n K) (hK : K < 4611686018427387904) (ha : a ≤ 9223372036854775807) :
    Calls Try.prog 20 #[.pointer (some ⟨g, 0, none⟩), .int .i64 a, .slice A m c] w fun e w' => e = .returned (.bool (wrS s n a b).2) ∧ SlS w' g d n (wrS s n a b).1 ∧ But [g, d] w w' := by
  obtain ⟨o1, o2, o3, o4⟩ := ho
  have hlen := hb.len
  unfold wrS
  rw [hlen]
  by_cases hok : okB s.dead a (m : Int) n = true
  · obtain ⟨e1, e2, e3, e4⟩ := okB_yes hok
    rw [if_pos hok]
    by_cases hc : s.cut = true ∧ s.left = 0
    · rw [if_pos hc]
      refine (write_torn a.toNat (min (max s.torn 0) (m : Int)).toNat a A m c b h hb (by omega) e1 hc.1 hc.2 (by omega) o2 (by omega) (by omega)).mono fun e w' ⟨q1, q2, q3⟩ => ⟨q1, ?_, q3⟩
      unfold SlS
      simp only
      rw [hc.1, hc.2]
      exact q2
    · rw [if_neg hc]
      by_cases hcut : s.cut = true
      · have := o4 hcut
        have hl : s.left ≠ 0 := fun e0 => hc ⟨hcut, e0⟩
        refine (write_less a.toNat a A m c b h hb (by omega) e1 hcut (by omega) (by omega) o2 (by omega) (by omega)).mono fun e w' ⟨q1, q2, q3⟩ => ⟨q1, ?_, q3⟩
        unfold SlS
        simp only
        rw [if_pos hcut, hcut, e1]
        exact q2
      · have hcut' : s.cut = false := by simpa using hcut
        refine (write_free a.toNat a A m c b h hb (by omega) e1 hcut' (by omega) o2 (by omega)).mono fun e w' ⟨q1, q2, q3⟩ => ⟨q1, ?_, q3⟩
        unfold SlS
        simp only
        rw [if_neg hcut, hcut', e1]
        exact q2
  · rw [if_neg hok]
    exact write_noE a A m c h ha (by simpa using hok)
theorem refWrite_all (a : Int) (A : Option Addr) (m c : Nat) (b : List UInt8) (K : Int) (h : RsS w g d n s) (hb : Bs w w.heap.size A m c b) (ho : s.Ok n K) (hK : K < 4611686018427387904) (ha : a ≤ 9223372036854775807) :
    Calls Try.prog 21 #[.pointer (some ⟨g, 0, none⟩), .int .i64 a, .slice A m c] w fun e w' => e = .returned (.bool (wrS s n a b).2) ∧ RsS w' g d n (wrS s n a b).1 ∧ But [g, d] w w' := by
  obtain ⟨o1, o2, o3, o4⟩ := ho
  have hlen := hb.len
  unfold wrS
  rw [hlen]
  by_cases hok : okB s.dead a (m : Int) n = true
  · obtain ⟨e1, e2, e3, e4⟩ := okB_yes hok
    rw [if_pos hok]
    by_cases hc : s.cut = true ∧ s.left = 0
    · rw [if_pos hc]
      have hl0 : (if s.cut then s.left else -1) = 0 := by rw [if_pos hc.1]; exact hc.2
      refine (refWrite_torn a.toNat (min (max s.torn 0) (m : Int)).toNat a A m c b h hb (by omega) e1 hl0 (by omega) o2 (by omega) (by omega)).mono fun e w' ⟨q1, q2, q3⟩ => ⟨q1, ?_, q3⟩
      unfold RsS
      simp only
      rw [hl0]
      exact q2
    · rw [if_neg hc]
      by_cases hcut : s.cut = true
      · have := o4 hcut
        have hl : s.left ≠ 0 := fun e0 => hc ⟨hcut, e0⟩
        have hle : (if s.cut then s.left else -1) = s.left := if_pos hcut
        refine (refWrite_less a.toNat a A m c b h hb (by omega) e1 (by omega) (by omega) o2 (by omega) (by omega)).mono fun e w' ⟨q1, q2, q3⟩ => ⟨q1, ?_, q3⟩
        unfold RsS
        simp only
        rw [if_pos hcut, if_pos hcut, e1]
        rw [hle] at q2
        exact q2
      · have hle : (if s.cut then s.left else -1) = -1 := if_neg hcut
        refine (refWrite_free a.toNat a A m c b h hb (by omega) e1 (by omega) (by omega) o2 (by omega)).mono fun e w' ⟨q1, q2, q3⟩ => ⟨q1, ?_, q3⟩
        unfold RsS
        simp only
        rw [if_neg hcut, e1]
        rw [hle] at q2
        exact q2
  · rw [if_neg hok]
    exact (refWrite_no a A m c h ha (by simpa using hok)).mono fun e w' ⟨he, hw⟩ => ⟨he, by rw [← hw]; exact h, by rw [← hw]; exact But.refl _ _⟩
/-- What a Cut leaves. -/
def cutS (s : Sst) (m t : Int) : Sst := { s with cut := decide (0 ≤ m), left := m, torn := t }
def revS (s : Sst) : Sst := { s with dead := false, cut := false }
theorem cutS_ok {K : Int} (h : s.Ok n K) {m : Int} (t : Int) (hm : m ≤ 9223372036854775807) : (cutS s m t).Ok n (K + 1) := by
  obtain ⟨h1, h2, h3, h4⟩ := h
  refine ⟨h1, h2, by simp only [cutS]; omega, fun e => ?_⟩
  simp [cutS] at e ⊢
  omega
theorem revS_ok {K : Int} (h : s.Ok n K) : (revS s).Ok n (K + 1) := by
  obtain ⟨h1, h2, h3, h4⟩ := h
  exact ⟨h1, h2, by simp only [revS]; omega, fun e => by simp [revS] at e⟩
theorem Sst.Ok.more {K K' : Int} (h : s.Ok n K) (hK : K ≤ K') : s.Ok n K' := ⟨h.1, h.2.1, by have := h.2.2.1; omega, h.2.2.2⟩
theorem cut_all (m t : Int) (h : SlS w g d n s) : Calls Try.prog 12 #[.pointer (some ⟨g, 0, none⟩), .int .i64 m, .int .i64 t] w fun e w' => e = .returned (.tuple #[]) ∧ SlS w' g d n (cutS s m t) ∧ But [g] w w' := cut_c m t _ h rfl
theorem refCut_all (m t : Int) (h : RsS w g d n s) : Calls Try.prog 23 #[.pointer (some ⟨g, 0, none⟩), .int .i64 m, .int .i64 t] w fun e w' => e = .returned (.tuple #[]) ∧ RsS w' g d n (cutS s m t) ∧ But [g] w w' :=
  refCut_c m t _ h (by
    show max (-1) m = (if decide (0 ≤ m) = true then m else -1)
    by_cases h0 : 0 ≤ m
    · rw [if_pos (by simpa using h0)]
      omega
    · rw [if_neg (by simpa using h0)]
      omega)
theorem revive_all (h : SlS w g d n s) : Calls Try.prog 14 #[.pointer (some ⟨g, 0, none⟩)] w fun e w' => e = .returned (.tuple #[]) ∧ SlS w' g d n (revS s) ∧ But [g] w w' := revive_c h
theorem refRevive_all (h : RsS w g d n s) : Calls Try.prog 24 #[.pointer (some ⟨g, 0, none⟩)] w fun e w' => e = .returned (.tuple #[]) ∧ RsS w' g d n (revS s) ∧ But [g] w w' := refRevive_c h
/-- What a Read answers. -/
def rdS (s : Sst) (n : Nat) (a m : Int) : List UInt8 × Bool := if okB s.dead a m n = true then ((s.l.drop a.toNat).take m.toNat, true) else ([], false)
def RdE (w : World) (r : List UInt8 × Bool) (e : Ending) (w' : World) : Prop := ∃ A n c, e = .returned (.tuple #[.slice A n c, .bool r.2]) ∧ Bs w' w'.heap.size A n c r.1 ∧ Below w.heap.size w w'
theorem read_all (a m : Int) (h : SlS w g d n s) (ha : a ≤ 9223372036854775807) : Calls Try.prog 15 #[.pointer (some ⟨g, 0, none⟩), .int .i64 a, .int .i64 m] w (RdE w (rdS s n a m)) := by
  unfold rdS
  by_cases hok : okB s.dead a m n = true
  · obtain ⟨e1, e2, e3, e4⟩ := okB_yes hok
    rw [if_pos hok]
    have hl := h.2.2.1
    exact (read_yes a.toNat m.toNat a m h (by omega) (by omega) e1 (by omega)).mono fun e w' ⟨he, hr, hb⟩ => ⟨_, _, _, he, hr.bs (by rw [List.length_take, List.length_drop]; omega), hb⟩
  · rw [if_neg hok]
    exact (read_no a m h ha (by simpa using hok)).mono fun e w' ⟨he, hw⟩ => ⟨_, _, _, he, Bs.nil_ _ _, by rw [← hw]; exact Below.refl _ _⟩
end
end Go.Proofs.Ytkjckdndkljeeaa

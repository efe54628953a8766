/- Package roll: known. -/
import Derived.Test.YtkjckdndkljeeaaRollU
namespace Go.Proofs.Ytkjckdndkljeeaa
open Go.RowKit
section
variable {w : World} {g d n : Nat} {s s' : Sst}
theorem open_v (a z : Nat) (L : List Rec) (u : Nat) (K e0 : Int) (hO : opS s n (a : Int) (z : Int) = (s', some (L, u), e0)) (h : SlS w g d n s) (ho : s.Ok n K) (hK : K ≤ 1000000000000000000) (x y : Int) (hx : x = (a : Int)) (hy : y = (z : Int)) (ha : a ≤ 1000000) :
    Calls Try.prog 9 #[.pointer (some ⟨g, 0, none⟩), .int .i64 x, .int .i64 y] w fun e w' => ∃ p A c, e = .returned (.tuple #[.pointer (some ⟨p, 0, none⟩), .int .i64 e0]) ∧ w.heap.size ≤ p ∧ RlG w' w.heap.size p g (a : Int) (z : Int) A c L u ∧ SlS w' g d n s' ∧ But [g, d] w w' := by
  subst hx hy
  refine (open_c (a : Int) (z : Int) K w h ho hK (by omega) _ hO).mono ?_
  rintro e w' ⟨h1, h2, p, A, c, h3, h4, h5⟩
  exact ⟨p, A, c, h3, h4, h5, h1, h2⟩
theorem open_n (a z : Int) (K e0 : Int) (hO : opS s n a z = (s', none, e0)) (h : SlS w g d n s) (ho : s.Ok n K) (hK : K ≤ 1000000000000000000) (ha : a ≤ 1000000) :
    Calls Try.prog 9 #[.pointer (some ⟨g, 0, none⟩), .int .i64 a, .int .i64 z] w fun e w' => e = .returned (.tuple #[.pointer none, .int .i64 e0]) ∧ SlS w' g d n s' ∧ But [g, d] w w' := by
  refine (open_c a z K w h ho hK (by omega) _ hO).mono ?_
  rintro e w' ⟨h1, h2, h3⟩
  exact ⟨h3, h1, h2⟩
theorem append_v {B p u z c : Nat} {a : Nat} {A : Option Addr} {L L' : List Rec} (u' : Nat) (e0 : Int) (q : Int) (t : List UInt8) (K : Int) (hA : apS s n (a : Int) z L u q t = (s', L', u', e0)) (h : RlG w B p g (a : Int) (z : Int) A c L u) (hs : SlS w g d n s) (ho : s.Ok n K) (hK : K ≤ 1000000000000000000) (hz : z ≤ 8192) (huz : u ≤ z) (hLu : L.length ≤ u) (ha : a ≤ 1000000)
    (hB : B ≤ w.heap.size) (h0 : 0 ≤ lastB L) (hq : q ≤ 9223372036854775807) :
    Calls Try.prog 11 #[.pointer (some ⟨p, 0, none⟩), .int .i64 q, .string ⟨t.toArray⟩] w fun e w' => e = .returned (.int .i64 e0) ∧ ∃ A' c', RlG w' B p g (a : Int) (z : Int) A' c' L' u' ∧ SlS w' g d n s' ∧ But (p :: g :: d :: rowOf A) w w' :=
  (append_c q t K w h hs ho hK hz huz hLu (by omega) (by omega) hB h0 hq _ hA)
end
/-- A slab, and a region of it with these records and 0s behind them. -/
structure St (s : Sst) (n a z u : Nat) (L : List Rec) (K : Int) : Prop where
  ok : s.Ok n K
  fit : a + z ≤ n
  small : 32 ≤ z ∧ z ≤ 8192 ∧ a ≤ 1000000
  live : s.dead = false
  rg : reg s.l a z = catB 0 L ++ List.replicate (z - u) 0
  recs : RecsOk 0 L
  len : (catB 0 L).length = u
  le : u ≤ z
theorem St.last {s : Sst} {n a z u : Nat} {L : List Rec} {K : Int} (h : St s n a z u L K) : 0 ≤ lastB L := by rw [lastB_lastF]; exact lastF_ge L 0 h.recs
theorem St.count {s : Sst} {n a z u : Nat} {L : List Rec} {K : Int} (h : St s n a z u L K) : L.length * 20 ≤ u := by
  have := catB_len L 0
  rw [h.len] at this
  omega
theorem St.new {n a z : Nat} {s : Sst} {K : Int} (hs : s.l = List.replicate n 0) (ho : s.Ok n K) (hz : a + z ≤ n) (hz1 : 32 ≤ z ∧ z ≤ 8192 ∧ a ≤ 1000000) (hd : s.dead = false) : St s n a z 0 [] K := by
  refine ⟨ho, hz, hz1, hd, ?_, trivial, rfl, by omega⟩
  unfold reg
  rw [hs, List.drop_replicate, List.take_replicate, Nat.min_eq_left (by omega), Nat.sub_zero]
  rfl
/-- Open finds it as it is. -/
theorem St.open_ {s : Sst} {n a z u : Nat} {L : List Rec} {K : Int} (h : St s n a z u L K) : opS s n (a : Int) (z : Int) = (s, some (L, u), 0) := by
  obtain ⟨s', R, e, h1, _, _, _, _, h5⟩ := opS_reg h.ok.1 h.fit h.small.1 h.small.2.1 h.live h.rg h.recs h.len (whole_zeros _ _ _)
  obtain ⟨rfl, rfl, rfl⟩ := h5 (blank_zeros _)
  exact h1
/-- Append, where no power goes. -/
theorem St.append {s : Sst} {n a z u : Nat} {L : List Rec} {K q : Int} {t : List UInt8} (h : St s n a z u L K) (hc : s.cut = false) (hq : lastB L < q) (hq2 : q ≤ 9223372036854775807) (ht : t.length ≤ 420) (hfit : u + (frameB u ⟨q, t⟩).length ≤ z) :
    ∃ s', apS s n (a : Int) z L u q t = (s', L ++ [⟨q, t⟩], u + (frameB u ⟨q, t⟩).length, 0) ∧ St s' n a z (u + (frameB u ⟨q, t⟩).length) (L ++ [⟨q, t⟩]) (K + 1) ∧ s'.cut = false ∧ (∀ a' z', a' + z' ≤ a + u ∨ a + z ≤ a' → reg s'.l a' z' = reg s.l a' z') := by
  obtain ⟨s', L', u', e, h1, h2, h3, h4, h5 | h5⟩ := apS_reg h.ok.1 h.fit h.live h.rg h.recs h.len hq hq2 ht hfit
  · obtain ⟨rfl, rfl, rfl, h6, h7, h8, h9, h10⟩ := h5
    have hO := apS_ok (a := (a : Int)) (z := z) (L := L) (u := u) (q := q) (t := t) h.ok
    rw [h1] at hO
    exact ⟨s', h1, ⟨hO, h.fit, h.small, h6, h8, h10, h9, hfit⟩, by rw [h7, hc], h3⟩
  · rw [hc] at h5
    cases h5.2.2.2.1
theorem frame_len (o : Nat) (r : Rec) (h : r.body.length ≤ 63) : (frameB o r).length = 20 + r.body.length := by
  have e : (enc (zig (r.body.length : Int))).length = 1 := by
    have : zig (r.body.length : Int) < 128 := by unfold zig; split <;> omega
    unfold enc
    rw [encF_lt _ _ this]
    rfl
  rw [frameB_len, tailB_len, e]
  omega
theorem ok_new (n : Nat) : Sst.Ok ⟨List.replicate n 0, 0, false, false, 0, 0⟩ n 0 := ⟨by simp, Int.le_refl _, Int.le_refl _, fun e => by cases e⟩
theorem newS_e (x : Int) (m : Nat) (w : World) (hm : min (max x 1) 65536 = (m : Int)) :
    Calls Try.prog 8 #[.int .i64 x] w fun e w' => ∃ g d, e = .returned (.pointer (some ⟨g, 0, none⟩)) ∧ SlS w' g d m ⟨List.replicate m 0, 0, false, false, 0, 0⟩ ∧ w.heap.size ≤ g ∧ w.heap.size ≤ d ∧ Below w.heap.size w w' := new_e x m w hm
theorem but_new {w w1 w2 : World} {B : Nat} {ex : List Nat} (hb : Below B w w1) (ht : But ex w1 w2) (hB : B ≤ w1.heap.size) (hx : ∀ k ∈ ex, B ≤ k) : Below B w w2 := hb.trans (ht.below hB hx)
theorem rl_ex {T E : TypeId} {w : World} {B p g d c u N : Nat} {a z : Int} {A : Option Addr} {L : List Rec} (h : Rl T E w B p g a z A c L u) (hN : N ≤ B) (hp : N ≤ p) (hg : N ≤ g) (hd : N ≤ d) : ∀ k ∈ p :: g :: d :: rowOf A, N ≤ k := by
  intro k hk
  rcases List.mem_cons.1 hk with rfl | hk
  · exact hp
  rcases List.mem_cons.1 hk with rfl | hk
  · exact hg
  rcases List.mem_cons.1 hk with rfl | hk
  · exact hd
  · exact Nat.le_trans hN (h.lt.2 k hk).2
set_option maxRecDepth 100000 in
set_option maxHeartbeats 3200000 in
theorem known7_c (w : World) : Calls Try.prog 10 #[] w fun e w' => e = .returned (.bool true) ∧ Below w.heap.size w w' := by
  have hS0 : St ⟨List.replicate 100 0, 0, false, false, 0, 0⟩ 100 10 64 0 [] 0 := St.new rfl (ok_new 100) (by omega) (by omega) rfl
  have hfl : (frameB 0 ⟨3, [97, 98]⟩).length = 22 := frame_len _ _ (by decide)
  obtain ⟨s1, hA, hS1, _, _⟩ := hS0.append (q := 3) (t := [97, 98]) rfl (by decide) (by decide) (by decide) (by rw [hfl]; omega)
  rw [Nat.zero_add, hfl] at hA hS1
  rw [List.nil_append] at hA hS1
  have HO0 := Lib.hid hS0.open_
  have HO1 := Lib.hid hS1.open_
  have HA := Lib.hid hA
  have HS0 := Lib.hid hS0
  have HS1 := Lib.hid hS1
  clear hS0 hS1 hA
  go_enter Try.func10, Try.ntmps10
  go_wp2_with fail
  (with_reducible refine (newS_e 100 100 _ (by omega)).mono ?_)
  rintro e w1 ⟨g, d, rfl, hs, hg, hd, hb⟩
  have HS := Lib.hid hs
  have HB := Lib.hid hb
  have HG := Lib.hid (show w.heap.size ≤ g ∧ w.heap.size ≤ d from ⟨hg, hd⟩)
  clear hs hg hd hb
  go_wp2_with fail
  (with_reducible refine (open_v 10 64 [] 0 0 0 HO0.out HS.out HS0.out.ok (by omega) 10 64 rfl rfl (by omega)).mono ?_)
  rintro e w2 ⟨p, A, c, rfl, hp, hr, hs, hb⟩
  have HR2 := Lib.hid hr
  have HS2 := Lib.hid hs
  have HB2 := Lib.hid (but_new HB.out hb HB.out.size (by simp; exact HG.out))
  have HP := Lib.hid (show w.heap.size ≤ p by have := HB.out.size; omega)
  have HW1 := Lib.hid (show w.heap.size ≤ w1.heap.size ∧ w1.heap.size ≤ w2.heap.size from ⟨HB.out.size, hb.size⟩)
  clear hp hr hs hb HS HB
  go_wp2_with fail
  (with_reducible refine (append_v 22 0 3 [97, 98] 0 HA.out HR2.out HS2.out HS0.out.ok (by omega) (by omega) (by omega) (by decide) (by omega) HW1.out.2 (by decide) (by omega)).mono ?_)
  rintro e w3 ⟨rfl, A', c', hr, hs, hb⟩
  have HR3 := Lib.hid hr
  have HS3 := Lib.hid hs
  have HB3 := Lib.hid (but_new HB2.out hb HB2.out.size (rl_ex HR2.out HW1.out.1 HP.out HG.out.1 HG.out.2))
  have HW3 := Lib.hid hb.size
  clear hr hs hb HR2 HS2 HB2
  go_wp2_with fail
  (with_reducible refine (open_v 10 64 [⟨3, [97, 98]⟩] 22 _ 0 HO1.out HS3.out HS1.out.ok (by omega) 10 64 rfl rfl (by omega)).mono ?_)
  rintro e w4 ⟨p2, A2, c2, rfl, hp, hr, hs, hb⟩
  have HR4 := Lib.hid hr
  have HB4 := Lib.hid (but_new HB3.out hb HB3.out.size (by simp; exact HG.out))
  clear hp hr hs hb HR3 HS3 HB3
  go_wp2_with fail
  (with_reducible refine (records_c 1 HR4.out rfl (by omega)).mono ?_)
  rintro e w5 ⟨A5, c5, rfl, hr, hb⟩
  obtain ⟨k, rfl, hk, r0, r1⟩ := hr 0 (by decide)
  simp only [List.getElem_cons_zero, Nat.zero_mul, Nat.zero_add] at r0 r1
  have HR5 := Lib.hid (HR4.out.below hb)
  have HB5 := Lib.hid (HB4.out.trans (hb.mono HB4.out.size))
  clear hr hb HR4 HB4 hk
  go_wp2_with fail
  (with_reducible refine (left_c 42 HR5.out (by decide) (by decide) (by decide) (by decide)).mono ?_)
  rintro e w6 ⟨rfl, hb⟩
  have HB6 := Lib.hid (HB5.out.trans (hb.mono HB5.out.size))
  go_wp2
  go_ret
  exact ⟨rfl, HB6.out⟩
end Go.Proofs.Ytkjckdndkljeeaa

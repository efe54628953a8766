/- Package roll: RollTells. -/
import Derived.Test.YtkjckdndkljeeaaRollR
namespace Go.Proofs.Ytkjckdndkljeeaa
open Go.RowKit
/-- A raw call's cells, from place o of block g on. -/
def RawR (w : World) (g o : Nat) : Prop := ∃ (x y z : Int) (t : List UInt8), (-9223372036854775808 ≤ x ∧ x ≤ 9223372036854775807) ∧ (-9223372036854775808 ≤ y ∧ y ≤ 9223372036854775807) ∧ (-9223372036854775808 ≤ z ∧ z ≤ 9223372036854775807) ∧
  w.cell? ⟨g, o, none⟩ = some (.int .i64 x) ∧ w.cell? ⟨g, o + 1, none⟩ = some (.int .i64 y) ∧ w.cell? ⟨g, o + 2, none⟩ = some (.int .i64 z) ∧ w.cell? ⟨g, o + 3, none⟩ = some (.string ⟨t.toArray⟩)
def RawsR (w : World) (A : Option Addr) (n : Nat) : Prop := 0 < n → ∃ g o, A = some ⟨g, o, none⟩ ∧ g < w.heap.size ∧ ∀ i, i < n → RawR w g (o + i * 4)
theorem RawR.below {w w' : World} {g o : Nat} (h : RawR w g o) (hb : Below w.heap.size w w') : RawR w' g o := by
  obtain ⟨x, y, z, t, h1, h2, h3, c0, c1, c2, c3⟩ := h
  exact ⟨x, y, z, t, h1, h2, h3, cel_below c0 hb, cel_below c1 hb, cel_below c2 hb, cel_below c3 hb⟩
/-- The program's roll and the document's, told the same. -/
structure TS (w0 w : World) (p g d p2 g2 d2 a z : Nat) (s : Sst) (A : Option Addr) (c : Nat) (A2 : Option Addr) (c2 : Nat) (L : List Rec) (u : Nat) (K : Int) : Prop where
  rl : RlG w w0.heap.size p g (a : Int) (z : Int) A c L u
  rr : RlR w w0.heap.size p2 g2 (a : Int) (z : Int) A2 c2 L u
  sl : SlS w g d 260 s
  rs : RsS w g2 d2 260 s
  ok : s.Ok 260 K
  le : u ≤ z
  cnt : L.length ≤ u
  last : 0 ≤ lastB L
  bel : Below w0.heap.size w0 w
  pp : w0.heap.size ≤ p ∧ w0.heap.size ≤ p2
theorem TS.below {w0 w w' : World} {p g d p2 g2 d2 a z c c2 u : Nat} {s : Sst} {A A2 : Option Addr} {L : List Rec} {K : Int} (h : TS w0 w p g d p2 g2 d2 a z s A c A2 c2 L u K) (hb : Below w.heap.size w w') : TS w0 w' p g d p2 g2 d2 a z s A c A2 c2 L u K :=
  ⟨h.rl.below hb, h.rr.below hb, h.sl.below hb, h.rs.below hb, h.ok, h.le, h.cnt, h.last, h.bel.trans (hb.mono h.bel.size), h.pp⟩
theorem TS.drew {w0 w : World} {p g d p2 g2 d2 a z c c2 u : Nat} {s : Sst} {A A2 : Option Addr} {L : List Rec} {K : Int} (h : TS w0 w p g d p2 g2 d2 a z s A c A2 c2 L u K) : TS w0 w.drew p g d p2 g2 d2 a z s A c A2 c2 L u K :=
  ⟨h.rl, h.rr, h.sl, h.rs, h.ok, h.le, h.cnt, h.last, ⟨h.bel.os, h.bel.tape, h.bel.output, h.bel.size, h.bel.block⟩, h.pp⟩
theorem TS.more {w0 w : World} {p g d p2 g2 d2 a z c c2 u : Nat} {s : Sst} {A A2 : Option Addr} {L : List Rec} {K K' : Int} (h : TS w0 w p g d p2 g2 d2 a z s A c A2 c2 L u K) (hK : K ≤ K') : TS w0 w p g d p2 g2 d2 a z s A c A2 c2 L u K' :=
  ⟨h.rl, h.rr, h.sl, h.rs, h.ok.more hK, h.le, h.cnt, h.last, h.bel, h.pp⟩
def TellsRel7 (w : World) (g d g2 d2 a z n : Nat) (x12 x14 x16 i : Value) (wr : World) : Prop :=
  ∃ (j : Nat) (s : Sst) (p : Nat) (A : Option Addr) (c p2 : Nat) (A2 : Option Addr) (c2 : Nat) (L : List Rec) (u lst : Nat), j ≤ n ∧ i = .int .i64 (j : Int) ∧ x12 = .pointer (some ⟨p, 0, none⟩) ∧ x14 = .pointer (some ⟨p2, 0, none⟩) ∧ x16 = .int .i64 (lst : Int) ∧ lst ≤ 301 * j ∧ TS w wr p g d p2 g2 d2 a z s A c A2 c2 L u (300 * (j : Int) + 300)
theorem refWriteS_w {w : World} {g d n : Nat} {s s' : Sst} {β : Bool} (a : Int) (A : Option Addr) (m c : Nat) (b : List UInt8) (K : Int) (hW : wrS s n a b = (s', β)) (h : RsS w g d n s) (hb : Bs w w.heap.size A m c b) (ho : s.Ok n K) (hK : K < 4611686018427387904) (ha : a ≤ 9223372036854775807) :
    Calls Try.prog 21 #[.pointer (some ⟨g, 0, none⟩), .int .i64 a, .slice A m c] w fun e w' => e = .returned (.bool β) ∧ RsS w' g d n s' ∧ But [g, d] w w' := refWrite_w a A m c b K hW h hb ho hK ha
def pickI (n m : Int) : Int := if n.tmod m < 0 then n.tmod m + m else n.tmod m
theorem pickI_range (n m : Int) (hm : 0 < m) : 0 ≤ pickI n m ∧ pickI n m < m := by
  have h1 : n.tmod m < m := Int.tmod_lt_of_pos n hm
  have h2 : -m < n.tmod m := by
    have := Int.lt_tmod_of_pos n hm
    omega
  unfold pickI
  split <;> omega
set_option maxHeartbeats 400000 in
theorem pick_d (n m r : Int) (w : World) (hm : 0 < m) (hm2 : m ≤ 1000000000000) (hr : pickI n m = r) :
    Calls Try.prog 17 #[.int .i64 n, .int .i64 m] w fun e w' => e = .returned (.int .i64 r) ∧ w = w' := by
  have h1 : n.tmod m < m := Int.tmod_lt_of_pos n hm
  have h2 : -m < n.tmod m := by
    have := Int.lt_tmod_of_pos n hm
    omega
  unfold pickI at hr
  obtain ⟨t, ht⟩ : ∃ t, n.tmod m = t := ⟨_, rfl⟩
  rw [ht] at h1 h2 hr
  have hne : (m == 0) = false := by simp; omega
  subst hr
  by_cases hneg : t < 0
  · rw [if_pos hneg]
    go_enter Try.func17, Try.ntmps17
    go_wp2
    go_ret
    exact ⟨rfl, rfl⟩
  · rw [if_neg hneg]
    go_enter Try.func17, Try.ntmps17
    go_wp2
    go_ret
    exact ⟨rfl, rfl⟩
theorem blk4 {w : World} {g : Nat} {t : TypeId} {a b c d : Value} (h : Blk w g t #[a, b, c, d]) : g < w.heap.size ∧ w.cell? ⟨g, 0, none⟩ = some a ∧ w.cell? ⟨g, 1, none⟩ = some b ∧ w.cell? ⟨g, 2, none⟩ = some c ∧ w.cell? ⟨g, 3, none⟩ = some d := by
  have x0 := h.cell 0
  have x1 := h.cell 1
  have x2 := h.cell 2
  have x3 := h.cell 3
  simp at x0 x1 x2 x3
  exact ⟨h.lt, x0, x1, x2, x3⟩
theorem cutR_w {w : World} {g d n : Nat} {s : Sst} (m t : Int) (h : RsS w g d n s) : Calls Try.prog 23 #[.pointer (some ⟨g, 0, none⟩), .int .i64 m, .int .i64 t] w fun e w' => e = .returned (.tuple #[]) ∧ RsS w' g d n (cutS s m t) ∧ But [g] w w' := refCut_all m t h
theorem revR_w {w : World} {g d n : Nat} {s : Sst} (h : RsS w g d n s) : Calls Try.prog 24 #[.pointer (some ⟨g, 0, none⟩)] w fun e w' => e = .returned (.tuple #[]) ∧ RsS w' g d n (revS s) ∧ But [g] w w' := refRevive_all h
theorem appendR_v {w : World} {g d n : Nat} {s s' : Sst} {B p u z c : Nat} {a : Nat} {A : Option Addr} {L L' : List Rec} (u' : Nat) (e0 : Int) (q : Int) (t : List UInt8) (K : Int) (hA : apS s n (a : Int) z L u q t = (s', L', u', e0)) (h : RlR w B p g (a : Int) (z : Int) A c L u) (hs : RsS w g d n s) (ho : s.Ok n K) (hK : K ≤ 1000000000000000000) (hz : z ≤ 8192) (huz : u ≤ z) (hLu : L.length ≤ u) (ha : a ≤ 1000000)
    (hB : B ≤ w.heap.size) (h0 : 0 ≤ lastB L) (hq : q ≤ 9223372036854775807) :
    Calls Try.prog 25 #[.pointer (some ⟨p, 0, none⟩), .int .i64 q, .string ⟨t.toArray⟩] w fun e w' => e = .returned (.int .i64 e0) ∧ ∃ A' c', RlR w' B p g (a : Int) (z : Int) A' c' L' u' ∧ RsS w' g d n s' ∧ But (p :: g :: d :: rowOf A) w w' :=
  (refAppend_c q t K w h hs ho hK hz huz hLu (by omega) (by omega) hB h0 hq _ hA)
theorem TS.recs {w0 w : World} {p g d p2 g2 d2 a z c c2 u : Nat} {s : Sst} {A A2 : Option Addr} {L : List Rec} {K : Int} (h : TS w0 w p g d p2 g2 d2 a z s A c A2 c2 L u K) : Rcs w A L ∧ Rcs w A2 L := ⟨h.rl.rcs, h.rr.rcs⟩
/-- Behind what the switch did. -/
def ArmRel (w : World) (g d g2 d2 a z j : Nat) (x12 x14 x16 : Value) (wr : World) : Prop :=
  ∃ (s : Sst) (p : Nat) (A : Option Addr) (c p2 : Nat) (A2 : Option Addr) (c2 : Nat) (L : List Rec) (u lst : Nat), x12 = .pointer (some ⟨p, 0, none⟩) ∧ x14 = .pointer (some ⟨p2, 0, none⟩) ∧ x16 = .int .i64 (lst : Int) ∧ lst ≤ 301 * j + 301 ∧ TS w wr p g d p2 g2 d2 a z s A c A2 c2 L u (300 * (j : Int) + 600)
theorem RawR.cel {w w' : World} {g o : Nat} (h : RawR w g o) (hb : Below w.heap.size w w') (_hg : g < w.heap.size) : RawR w' g o := h.below hb
theorem bs_but {w w' : World} {B n c g : Nat} {ex : List Nat} {l : List UInt8} (h : Bs w B (some ⟨g, 0, none⟩) n c l) (hb : But ex w w') (hx : ∀ o : Nat, (some (⟨g, 0, none⟩ : Addr)) = some ⟨g, o, none⟩ → g ∉ ex) : Bs w' w'.heap.size (some ⟨g, 0, none⟩) n c l := by
  refine ⟨h.1, h.2.1, h.2.2.1, fun h0 => ?_⟩
  obtain ⟨g0, o0, e, hg, hc⟩ := h.2.2.2 h0
  cases e
  have h1 := hc 0 (by have := h.1; omega)
  exact ⟨g, 0, rfl, Nat.lt_of_lt_of_le (World.block_lt_of_cell? w _ h1) hb.size, fun j hj => cel_but (hc j hj) hb (hx 0 rfl)⟩
theorem Rl.slab7 {w w' : World} {N p g g2 d2 n c u : Nat} {a z : Int} {A : Option Addr} {L : List Rec} {s : Sst} (h : RlG w N p g a z A c L u) (hr : RsS w g2 d2 n s) (hb : But [g2, d2] w w') : RlG w' N p g a z A c L u :=
  h.slab (h.far hr.1 (by decide) (by decide)) (h.far hr.2.1 (by decide) (by decide)) hb
def OpV (T E : TypeId) (w w' : World) (g : Nat) (a z : Int) (v : Value) : Option (List Rec × Nat) → Prop
  | none => v = .pointer none
  | some q => ∃ (p : Nat) (A : Option Addr) (c : Nat), v = .pointer (some ⟨p, 0, none⟩) ∧ w.heap.size ≤ p ∧ Rl T E w' w.heap.size p g a z A c q.1 q.2
theorem openR_v {w : World} {g d n : Nat} {s s' : Sst} {R : Option (List Rec × Nat)} {e0 : Int} (a z : Int) (K : Int) (hO : opS s n a z = (s', R, e0)) (h : SlS w g d n s) (ho : s.Ok n K) (hK : K ≤ 1000000000000000000) (ha : a ≤ 9223372036854775807) :
    Calls Try.prog 9 #[.pointer (some ⟨g, 0, none⟩), .int .i64 a, .int .i64 z] w fun e w' => ∃ v, e = .returned (.tuple #[v, .int .i64 e0]) ∧ SlS w' g d n s' ∧ But [g, d] w w' ∧ OpV 66 58 w w' g a z v R := by
  refine (open_c a z K w h ho hK ha _ hO).mono ?_
  rintro e w' ⟨h1, h2, h3⟩
  cases R with
  | none => exact ⟨_, h3, h1, h2, rfl⟩
  | some q =>
    obtain ⟨p, A, c, h4, h5, h6⟩ := h3
    exact ⟨_, h4, h1, h2, p, A, c, rfl, h5, h6⟩
theorem refOpenR_v {w : World} {g d n : Nat} {s s' : Sst} {R : Option (List Rec × Nat)} {e0 : Int} (a z : Int) (K : Int) (hO : opS s n a z = (s', R, e0)) (h : RsS w g d n s) (ho : s.Ok n K) (hK : K ≤ 1000000000000000000) (ha : a ≤ 9223372036854775807) :
    Calls Try.prog 22 #[.pointer (some ⟨g, 0, none⟩), .int .i64 a, .int .i64 z] w fun e w' => ∃ v, e = .returned (.tuple #[v, .int .i64 e0]) ∧ RsS w' g d n s' ∧ But [g, d] w w' ∧ OpV 51 74 w w' g a z v R := by
  refine (refOpen_c a z K w h ho hK ha _ hO).mono ?_
  rintro e w' ⟨h1, h2, h3⟩
  cases R with
  | none => exact ⟨_, h3, h1, h2, rfl⟩
  | some q =>
    obtain ⟨p, A, c, h4, h5, h6⟩ := h3
    exact ⟨_, h4, h1, h2, p, A, c, rfl, h5, h6⟩
/-- Where an Open gives a roll, the region fits. -/
theorem opS_fit {s s' : Sst} {n : Nat} {a z e : Int} {q : List Rec × Nat} (h : opS s n a z = (s', some q, e)) : a + z ≤ n := by
  unfold opS at h
  by_cases h1 : badA n a z = true
  · rw [if_pos h1] at h
    cases h
  · unfold badA at h1
    simp at h1
    omega
set_option maxRecDepth 100000 in
set_option maxHeartbeats 12800000 in
theorem rollTells_c (x y : Int) (Ab : Option Addr) (nb cb0 : Nat) (bf : List UInt8) (A0 : Option Addr) (n c0 : Nat) (w : World) (hbf : Bs w w.heap.size Ab nb cb0 bf) (hr : RawsR w A0 n) (hn : n ≤ 281474976710656) :
    Calls Try.prog 4 #[.int .i64 x, .int .i64 y, .slice Ab nb cb0, .slice A0 n c0] w fun e w' => e = .returned (.bool true) ∧ Below w.heap.size w w' := by
  have HBF := Lib.hid hbf
  have HRW := Lib.hid hr
  clear hbf hr
  go_enter Try.func4, Try.ntmps4
  go_wp2_with fail
  (with_reducible refine (pickB x 40 _ (by omega) (by omega)).mono ?_)
  rintro e w' ⟨ja, hja, rfl, rfl⟩
  obtain ⟨a, ha⟩ : ∃ a : Int, (ja : Int) - 2 = a := ⟨_, rfl⟩
  have ha2 : -2 ≤ a ∧ a ≤ 37 := by omega
  go_wp2_with fail
  clear ha hja
  (with_reducible refine (pickB y 200 _ (by omega) (by omega)).mono ?_)
  rintro e w' ⟨jz, hjz, rfl, rfl⟩
  obtain ⟨z, hz⟩ : ∃ z : Nat, 30 + jz = z := ⟨_, rfl⟩
  have hzi : (30 : Int) + (jz : Int) = (z : Int) := by omega
  have hz2 : 30 ≤ z ∧ z ≤ 229 := by omega
  go_wp2_with fail
  clear hz hjz hzi
  (with_reducible refine (newS_e 260 260 _ (by omega)).mono ?_)
  rintro e w1 ⟨g, d, rfl, hs, hg, hd, hb⟩
  have HG := Lib.hid hg
  have HD := Lib.hid hd
  have HS1 := Lib.hid hs
  have HB1 := Lib.hid hb
  clear hs hg hd hb
  go_wp2_with fail
  (with_reducible refine (refNew_e 260 260 _ (by omega)).mono ?_)
  rintro e w2 ⟨g2, d2, rfl, hs, hg, hd, hb⟩
  have HG2 := Lib.hid (show w.heap.size ≤ g2 ∧ w.heap.size ≤ d2 by have := HB1.out.size; omega)
  have HNT := Lib.hid (apart4 HS1.out.lt.1 HS1.out.lt.2 hg hd)
  have HS2 := Lib.hid (HS1.out.below hb)
  have HT2 := Lib.hid hs
  have HB2 := Lib.hid (bel_tr HB1.out hb)
  have HO0 := Lib.hid (ok_new 260)
  clear hs hg hd hb HS1 HB1
  go_wp2_with fail
  (with_reducible refine (few_k _ nb cb0 bf 100 100 (min nb 100) _ ((HBF.out.below HB2.out).more HB2.out.size) rfl rfl (by omega)).mono ?_)
  rintro e w3 ⟨gb, cb, rfl, ho, hb⟩
  obtain ⟨kb, hkb⟩ : ∃ k, min nb 100 = k := ⟨_, rfl⟩
  rw [hkb] at ho
  rw [hkb]
  have hkb2 : kb ≤ 100 := by omega
  have HS3 := Lib.hid (HS2.out.below hb)
  have HT3 := Lib.hid (HT2.out.below hb)
  have HBs3 := Lib.hid ho.bs
  have HX3 := Lib.hid (show gb ≠ g ∧ gb ≠ d ∧ gb ≠ g2 ∧ gb ≠ d2 by have := ho.ge; have := HS2.out.lt; have := HT2.out.lt; omega)
  have HB3 := Lib.hid (bel_tr HB2.out hb)
  clear ho hb hkb HS2 HT2 HB2
  go_wp2_with fail
  (with_reducible refine (known7_c _).mono ?_)
  rintro e w4 ⟨rfl, hb⟩
  have HS4 := Lib.hid (HS3.out.below hb)
  have HT4 := Lib.hid (HT3.out.below hb)
  have HBs4 := Lib.hid ((HBs3.out.below hb).more hb.size)
  have HB4 := Lib.hid (bel_tr HB3.out hb)
  clear hb HS3 HT3 HB3 HBs3
  obtain ⟨aw, haw⟩ : ∃ aw : Int, max 0 a = aw := ⟨_, rfl⟩
  have haw2 : 0 ≤ aw ∧ aw ≤ 37 := by omega
  have haw3 : (if (0 : Int) < a then a else 0) = aw := by split <;> omega
  obtain ⟨s1, β, hW⟩ : ∃ s1 β, wrS ⟨List.replicate 260 0, 0, false, false, 0, 0⟩ 260 aw (bf.take 100) = (s1, β) := ⟨_, _, rfl⟩
  have HWr := Lib.hid hW
  have HO1 := Lib.hid (wrS_w hW HO0.out)
  clear hW
  go_wp2_with fail
  (with_reducible refine (write_w aw _ kb cb (bf.take 100) 0 HWr.out HS4.out HBs4.out HO0.out (by omega) (by omega)).mono ?_)
  rintro e w5 ⟨rfl, hs, hb⟩
  have HS5 := Lib.hid hs
  have HT5 := Lib.hid (HT4.out.but hb (not2 HNT.out.1) (not2 HNT.out.2.1))
  have HBs5 := Lib.hid (bs_but HBs4.out hb (by intro o e; cases e; simp; exact ⟨HX3.out.1, HX3.out.2.1⟩))
  have HB5 := Lib.hid (bel_but HB4.out hb HB4.out.size HG.out HD.out)
  clear hs hb HS4 HT4 HB4 HBs4
  go_wp2_with fail
  (with_reducible refine (refWriteS_w aw _ kb cb (bf.take 100) 0 HWr.out HT5.out HBs5.out HO0.out (by omega) (by omega)).mono ?_)
  rintro e w6 ⟨rfl, hs, hb⟩
  have HT6 := Lib.hid hs
  have HS6 := Lib.hid (HS5.out.but hb (not2 HNT.out.2.2.1) (not2 HNT.out.2.2.2))
  have HB6 := Lib.hid (bel_but HB5.out hb HB5.out.size HG2.out.1 HG2.out.2)
  clear hs hb HS5 HT5 HB5 HBs5 haw3
  obtain ⟨s2, R, e0, hO⟩ : ∃ s2 R e0, opS s1 260 a (z : Int) = (s2, R, e0) := ⟨_, _, _, rfl⟩
  have HOp := Lib.hid hO
  have HOk2 := Lib.hid (show s2.Ok 260 258 by
    have := opS_ok (a := a) (z := (z : Int)) HO1.out
    rw [hO] at this
    exact this)
  have hout := opS_out hO HO1.out.1
  clear hO
  go_wp2_with fail
  (with_reducible refine (openR_v a (z : Int) _ HOp.out HS6.out HO1.out (by omega) (by omega)).mono ?_)
  rintro e w7 ⟨v7, rfl, hs, hb, hv⟩
  have HS7 := Lib.hid hs
  have HT7 := Lib.hid (HT6.out.but hb (not2 HNT.out.1) (not2 HNT.out.2.1))
  have HB7 := Lib.hid (bel_but HB6.out hb HB6.out.size HG.out HD.out)
  have HV7 := Lib.hid hv
  clear hs hb hv HS6 HT6
  go_wp2_with fail
  (with_reducible refine (refOpenR_v a (z : Int) _ HOp.out HT7.out HO1.out (by omega) (by omega)).mono ?_)
  rintro e w8 ⟨v8, rfl, hs, hb, hv⟩
  have HT8 := Lib.hid hs
  have HS8 := Lib.hid (HS7.out.but hb (not2 HNT.out.2.2.1) (not2 HNT.out.2.2.2))
  have HB8 := Lib.hid (bel_but HB7.out hb HB7.out.size HG2.out.1 HG2.out.2)
  have HV8 := Lib.hid hv
  rcases hout with ⟨rfl, he⟩ | ⟨L, u, rfl, rfl, huz, hLu, h0L, hz1, hz3, ha0, ha1⟩
  · as_aux_lemma =>
    obtain rfl : v7 = .pointer none := HV7.out
    obtain rfl : v8 = .pointer none := HV8.out
    rcases he with rfl | rfl
    · go_wp2
      go_ret
      exact ⟨rfl, HB8.out⟩
    · go_wp2
      go_ret
      exact ⟨rfl, HB8.out⟩
  · obtain ⟨aN, rfl⟩ := Int.eq_ofNat_of_zero_le ha0
    have hfit := opS_fit HOp.out
    obtain ⟨p, A, c, rfl, hp, hr7⟩ := HV7.out
    obtain ⟨p2, A2, c2, rfl, hp2, hr8⟩ := HV8.out
    have HTS := Lib.hid (show TS w w8 p g d p2 g2 d2 aN z s2 A c A2 c2 L u 300 by
      refine ⟨(hr7.slab7 HT7.out hb).base HB6.out.size, hr8.base HB7.out.size, HS8.out, HT8.out, HOk2.out.more (by omega), by omega, hLu, h0L, HB8.out, by have := HB6.out.size; have := HB7.out.size; omega⟩)
    have HNT2 := Lib.hid HNT.out
    clear hs hb hv hr7 hr8 HS7 HT7 HB7 HV7 HV8 HT8 HS8 HB8 HB6 HOp HWr HO1 HOk2 HO0 HX3
    go_wp2
    go_loopw [12, 14, 16, 79] (fun x12 x14 x16 i wr => TellsRel7 w g d g2 d2 aN z n x12 x14 x16 i wr) (fun _ _ _ i _ => n - (intOf i).toNat)
    case atStart => exact ⟨0, s2, p, A, c, p2, A2, c2, L, u, 0, by omega, rfl, rfl, rfl, rfl, by omega, HTS.out.more (by omega)⟩
    case round =>
      clear HTS hLu h0L huz
      obtain ⟨j, s, p, A, c, p2, A2, c2, L, u, lst, hj, rfl, rfl, rfl, rfl, hlst, hts⟩ := hrel
      have HTS := Lib.hid hts
      clear hts
      by_cases hjn : j < n
      · as_aux_lemma =>
        have hjn' : (j : Int) < (n : Int) := by omega
        have hj0 : (0 : Int) ≤ (j : Int) := by omega
        obtain ⟨ga, oa, rfl, hga, hat⟩ := HRW.out (by omega)
        obtain ⟨x0, x1, x2, t, hx0, hx1, hx2, c0', c1', c2', c3'⟩ := (hat j hjn).cel HTS.out.bel hga
        clear hat
        go_wp2_with fail
        obtain ⟨gx, hgx⟩ : ∃ gx, wr.heap.size = gx := ⟨_, rfl⟩
        obtain ⟨W, hW⟩ : ∃ W, wr.alloc (.cells #[.int .i64 x0, .int .i64 x1, .int .i64 x2, .string ⟨t.toArray⟩] 47) = W := ⟨_, rfl⟩
        have hbW : Below wr.heap.size wr W := by rw [← hW]; exact (Below.refl _ _).alloc (Nat.le_refl _) _
        have HK := Lib.hid (show Blk W gx 47 #[.int .i64 x0, .int .i64 x1, .int .i64 x2, .string ⟨t.toArray⟩] by rw [← hW, ← hgx]; exact Blk.new _ _ _)
        have HNg := Lib.hid (show gx ≠ g ∧ gx ≠ g2 by have := HTS.out.sl.lt; have := HTS.out.rs.lt; omega)
        have HTw := Lib.hid (HTS.out.below hbW)
        rw [hW, hgx]
        clear hW hgx hbW HTS c0' c1' c2' c3'
        obtain ⟨lx, y0, y1, y2, y3⟩ := blk4 HK.out
        (with_reducible refine (pickB x0 8 _ (by omega) (by omega)).mono ?_)
        rintro e w' ⟨v, hv, rfl, rfl⟩
        obtain ⟨vi, hvi⟩ : ∃ vi : Int, (v : Int) = vi := ⟨_, rfl⟩
        rw [hvi]
        rw [hvi] at hv
        have hv0 : 0 ≤ vi := by omega
        clear hvi lx y0 y1 y2 y3
        go_upto_block 2 with fail
        go_cut [12, 14, 16] (fun x12 x14 x16 wx => ArmRel w g d g2 d2 aN z j x12 x14 x16 wx)
        case first =>
          as_aux_lemma =>
          have HKd := Lib.hid (HK.out.drew)
          rcases (show vi = 0 ∨ vi = 1 ∨ vi = 2 ∨ (vi ≠ 0 ∧ vi ≠ 1 ∧ vi ≠ 2) by omega) with rfl | rfl | rfl | ⟨n0, n1, n2⟩
          · as_aux_lemma =>
            clear hv hv0
            obtain ⟨q1, hq1⟩ : ∃ q, pickI x1 4 = q := ⟨_, rfl⟩
            obtain ⟨q2, hq2⟩ : ∃ q, pickI x2 60 = q := ⟨_, rfl⟩
            have hq1r := pickI_range x1 4 (by decide)
            have hq2r := pickI_range x2 60 (by decide)
            rw [hq1] at hq1r
            rw [hq2] at hq2r
            have HQ1 := Lib.hid hq1
            have HQ2 := Lib.hid hq2
            clear hq1 hq2
            go_upto_region 24 with fail
            refine wp_region_ord (S := fun V => Blk V gx 47 #[.int .i64 x0, .int .i64 x1, .int .i64 x2, .string ⟨t.toArray⟩]) (by kernel_rfl) ?_
            refine ord_take (v := ?_) (i := 0) (fuel := 7) (by simp; rfl) (by kernel_rfl) (by kernel_rfl) (by kernel_rfl) (Or.inl ⟨by rfl, fun w' hSw => ?_⟩) HKd.out ?_
            rotate_left
            · go_simp
              all_goals with_reducible rfl
            simp only [Act.put, List.setIfInBounds_toArray, List.set_cons_zero, List.set_cons_succ]
            refine ord_take (v := ?_) (i := 1) (fuel := 6) (by simp; rfl) (by kernel_rfl) (by kernel_rfl) (by kernel_rfl) (Or.inl ⟨by rfl, fun w' hSw => ?_⟩) HKd.out ?_
            rotate_left
            · go_simp
              all_goals with_reducible rfl
            simp only [Act.put, List.setIfInBounds_toArray, List.set_cons_zero, List.set_cons_succ]
            refine ord_take (v := ?_) (i := 2) (fuel := 5) (by simp; rfl) (by kernel_rfl) (by kernel_rfl) (by kernel_rfl) (Or.inl ⟨by rfl, fun w' hSw => ?_⟩) HKd.out ?_
            rotate_left
            · dsimp only at hSw
              obtain ⟨lx, y0, y1, y2, y3⟩ := blk4 hSw
              go_simp
              all_goals with_reducible rfl
            simp only [Act.put, List.setIfInBounds_toArray, List.set_cons_zero, List.set_cons_succ]
            refine ord_take (v := ?_) (i := 4) (fuel := 4) (by simp; rfl) (by kernel_rfl) (by kernel_rfl) (by kernel_rfl) (Or.inl ⟨by rfl, fun w' hSw => ?_⟩) HKd.out ?_
            rotate_left
            · go_simp
              all_goals with_reducible rfl
            simp only [Act.put, List.setIfInBounds_toArray, List.set_cons_zero, List.set_cons_succ]
            refine ord_take (v := ?_) (i := 5) (fuel := 3) (by simp; rfl) (by kernel_rfl) (by kernel_rfl) (by kernel_rfl) (Or.inl ⟨by rfl, fun w' hSw => ?_⟩) HKd.out ?_
            rotate_left
            · dsimp only at hSw
              obtain ⟨lx, y0, y1, y2, y3⟩ := blk4 hSw
              go_simp
              all_goals with_reducible rfl
            simp only [Act.put, List.setIfInBounds_toArray, List.set_cons_zero, List.set_cons_succ]
            refine ord_call (f := 17) (args := #[.int .i64 x1, .int .i64 4]) (w1 := W.drew) (i := 3) (fuel := 2) (by simp; rfl) (by kernel_rfl) (by rfl) ?_ ?_
            · go_simp
              all_goals with_reducible rfl
            refine (pick_d x1 4 q1 _ (by decide) (by decide) HQ1.out).mono ?_
            rintro e w' ⟨rfl, rfl⟩
            refine ⟨_, rfl, HKd.out, ?_⟩
            simp only [Act.put, List.setIfInBounds_toArray, List.set_cons_zero, List.set_cons_succ]
            refine ord_call (f := 17) (args := #[.int .i64 x2, .int .i64 60]) (w1 := W.drew) (i := 6) (fuel := 1) (by simp; rfl) (by kernel_rfl) (by rfl) ?_ ?_
            · go_simp
              all_goals with_reducible rfl
            refine (pick_d x2 60 q2 _ (by decide) (by decide) HQ2.out).mono ?_
            rintro e w' ⟨rfl, rfl⟩
            refine ⟨_, rfl, HKd.out, ?_⟩
            simp only [Act.put, List.setIfInBounds_toArray, List.set_cons_zero, List.set_cons_succ]
            refine ord_call (f := 12) (args := #[.pointer (some ⟨g, 0, none⟩), .int .i64 q1, .int .i64 q2]) (w1 := W.drew) (i := 7) (fuel := 0) (by simp; rfl) (by kernel_rfl) (by rfl) ?_ ?_
            · go_simp
              all_goals with_reducible rfl
            refine (cutS_w q1 q2 (show SlS W.drew g d 260 s from HTw.out.sl)).mono ?_
            rintro e w5 ⟨rfl, hs, hb0⟩
            have hb : But [g] W w5 := ((But.refl [g] W).drew).trans hb0
            have HS5 := Lib.hid hs
            have HK5 := Lib.hid (HK.out.but hb (not1 HNg.out.1))
            have HR5 := Lib.hid (HTw.out.rl.slab (g := g) (x := g) (y := g) (HTw.out.rl.far HTw.out.sl.1 (by decide) (by decide)) (HTw.out.rl.far HTw.out.sl.1 (by decide) (by decide)) (hb.more (by simp)))
            have HQ5 := Lib.hid (HTw.out.rr.slab (x := g) (y := g) (HTw.out.rr.far HTw.out.sl.1 (by decide) (by decide)) (HTw.out.rr.far HTw.out.sl.1 (by decide) (by decide)) (hb.more (by simp)))
            have HT5 := Lib.hid (HTw.out.rs.but hb (not1 HNT2.out.1.1) (not1 HNT2.out.2.1.1))
            have HB5 := Lib.hid (bel_but1 HTw.out.bel hb HTw.out.bel.size HG.out)
            clear hs hb hb0
            refine ⟨_, rfl, HK5.out, ?_⟩
            simp only [Act.put, List.setIfInBounds_toArray, List.set_cons_zero, List.set_cons_succ]
            refine ord_done (by kernel_rfl) ?_ _
            have HK5d := Lib.hid (HK5.out.drew)
            go_upto_region 25 with fail
            refine wp_region_ord (S := fun V => Blk V gx 47 #[.int .i64 x0, .int .i64 x1, .int .i64 x2, .string ⟨t.toArray⟩]) (by kernel_rfl) ?_
            refine ord_take (v := ?_) (i := 0) (fuel := 7) (by simp; rfl) (by kernel_rfl) (by kernel_rfl) (by kernel_rfl) (Or.inl ⟨by rfl, fun w' hSw => ?_⟩) HK5d.out ?_
            rotate_left
            · go_simp
              all_goals with_reducible rfl
            simp only [Act.put, List.setIfInBounds_toArray, List.set_cons_zero, List.set_cons_succ]
            refine ord_take (v := ?_) (i := 1) (fuel := 6) (by simp; rfl) (by kernel_rfl) (by kernel_rfl) (by kernel_rfl) (Or.inl ⟨by rfl, fun w' hSw => ?_⟩) HK5d.out ?_
            rotate_left
            · go_simp
              all_goals with_reducible rfl
            simp only [Act.put, List.setIfInBounds_toArray, List.set_cons_zero, List.set_cons_succ]
            refine ord_take (v := ?_) (i := 2) (fuel := 5) (by simp; rfl) (by kernel_rfl) (by kernel_rfl) (by kernel_rfl) (Or.inl ⟨by rfl, fun w' hSw => ?_⟩) HK5d.out ?_
            rotate_left
            · dsimp only at hSw
              obtain ⟨lx, y0, y1, y2, y3⟩ := blk4 hSw
              go_simp
              all_goals with_reducible rfl
            simp only [Act.put, List.setIfInBounds_toArray, List.set_cons_zero, List.set_cons_succ]
            refine ord_take (v := ?_) (i := 4) (fuel := 4) (by simp; rfl) (by kernel_rfl) (by kernel_rfl) (by kernel_rfl) (Or.inl ⟨by rfl, fun w' hSw => ?_⟩) HK5d.out ?_
            rotate_left
            · go_simp
              all_goals with_reducible rfl
            simp only [Act.put, List.setIfInBounds_toArray, List.set_cons_zero, List.set_cons_succ]
            refine ord_take (v := ?_) (i := 5) (fuel := 3) (by simp; rfl) (by kernel_rfl) (by kernel_rfl) (by kernel_rfl) (Or.inl ⟨by rfl, fun w' hSw => ?_⟩) HK5d.out ?_
            rotate_left
            · dsimp only at hSw
              obtain ⟨lx, y0, y1, y2, y3⟩ := blk4 hSw
              go_simp
              all_goals with_reducible rfl
            simp only [Act.put, List.setIfInBounds_toArray, List.set_cons_zero, List.set_cons_succ]
            refine ord_call (f := 17) (args := #[.int .i64 x1, .int .i64 4]) (w1 := w5.drew) (i := 3) (fuel := 2) (by simp; rfl) (by kernel_rfl) (by rfl) ?_ ?_
            · go_simp
              all_goals with_reducible rfl
            refine (pick_d x1 4 q1 _ (by decide) (by decide) HQ1.out).mono ?_
            rintro e w' ⟨rfl, rfl⟩
            refine ⟨_, rfl, HK5d.out, ?_⟩
            simp only [Act.put, List.setIfInBounds_toArray, List.set_cons_zero, List.set_cons_succ]
            refine ord_call (f := 17) (args := #[.int .i64 x2, .int .i64 60]) (w1 := w5.drew) (i := 6) (fuel := 1) (by simp; rfl) (by kernel_rfl) (by rfl) ?_ ?_
            · go_simp
              all_goals with_reducible rfl
            refine (pick_d x2 60 q2 _ (by decide) (by decide) HQ2.out).mono ?_
            rintro e w' ⟨rfl, rfl⟩
            refine ⟨_, rfl, HK5d.out, ?_⟩
            simp only [Act.put, List.setIfInBounds_toArray, List.set_cons_zero, List.set_cons_succ]
            refine ord_call (f := 23) (args := #[.pointer (some ⟨g2, 0, none⟩), .int .i64 q1, .int .i64 q2]) (w1 := w5.drew) (i := 7) (fuel := 0) (by simp; rfl) (by kernel_rfl) (by rfl) ?_ ?_
            · go_simp
              all_goals with_reducible rfl
            refine (cutR_w q1 q2 (show RsS w5.drew g2 d2 260 s from HT5.out)).mono ?_
            rintro e w6 ⟨rfl, hs, hb0⟩
            have hb : But [g2] w5 w6 := ((But.refl [g2] w5).drew).trans hb0
            have HTS6 := Lib.hid (show TS w w6 p g d p2 g2 d2 aN z (cutS s q1 q2) A c A2 c2 L u (300 * (j : Int) + 600) by
              have h0 := HTw.out
              refine ⟨HR5.out.slab (g := g) (x := g2) (y := g2) (HR5.out.far HT5.out.1 (by decide) (by decide)) (HR5.out.far HT5.out.1 (by decide) (by decide)) (hb.more (by simp)), HQ5.out.slab (g := g2) (x := g2) (y := g2) (HQ5.out.far HT5.out.1 (by decide) (by decide)) (HQ5.out.far HT5.out.1 (by decide) (by decide)) (hb.more (by simp)), HS5.out.but hb (not1 HNT2.out.2.2.1.1) (not1 HNT2.out.2.2.2.1), hs, (cutS_ok h0.ok q2 (by omega)).more (by omega), h0.le, h0.cnt, h0.last, bel_but1 HB5.out hb HB5.out.size HG2.out.1, h0.pp⟩)
            have HK6 := Lib.hid (HK5.out.but hb (not1 HNg.out.2))
            clear hs hb hb0
            refine ⟨_, rfl, HK6.out, ?_⟩
            simp only [Act.put, List.setIfInBounds_toArray, List.set_cons_zero, List.set_cons_succ]
            refine ord_done (by kernel_rfl) ?_ _
            trace_state
            go_wp2_with fail
            go_meet
            exact ⟨cutS s q1 q2, p, A, c, p2, A2, c2, L, u, lst, rfl, rfl, rfl, by omega, HTS6.out⟩
          · as_aux_lemma =>
            clear hv hv0 HKd
            go_wp2_with fail
            (with_reducible refine (revS_w HTw.out.sl).mono ?_)
            rintro e w5 ⟨rfl, hs, hb⟩
            have HS5 := Lib.hid hs
            have HT5 := Lib.hid (HTw.out.rs.but hb (not1 HNT2.out.1.1) (not1 HNT2.out.2.1.1))
            have HB5 := Lib.hid (bel_but1 HTw.out.bel hb HTw.out.bel.size HG.out)
            have HO5 := Lib.hid (revS_ok HTw.out.ok)
            clear hs hb HTw HK
            go_wp2_with fail
            (with_reducible refine (revR_w HT5.out).mono ?_)
            rintro e w6 ⟨rfl, hs, hb⟩
            have HT6 := Lib.hid hs
            have HS6 := Lib.hid (HS5.out.but hb (not1 HNT2.out.2.2.1.1) (not1 HNT2.out.2.2.2.1))
            have HB6 := Lib.hid (bel_but1 HB5.out hb HB5.out.size HG2.out.1)
            clear hs hb HS5 HT5 HB5
            obtain ⟨s3, ⟨L3, u3⟩, hO⟩ := opS_live (s := revS s) (n := 260) (a := (aN : Int)) (z := (z : Int)) rfl rfl (by omega) (by omega)
            have HO := Lib.hid hO
            have HO7 := Lib.hid (show s3.Ok 260 _ by
              have := opS_ok (a := (aN : Int)) (z := (z : Int)) HO5.out
              rw [hO] at this
              exact this)
            obtain ⟨h, _⟩ | ⟨L4, u4, h, _, huz, hLu, h0L, _⟩ := opS_out hO HO5.out.1
            · cases h
            cases h
            clear hO
            go_wp2_with fail
            (with_reducible refine (openR_v (aN : Int) (z : Int) _ HO.out HS6.out HO5.out (by omega) (by omega)).mono ?_)
            rintro e w7 ⟨v7, rfl, hs, hb, p5, A5, c5, rfl, hp5, hr5⟩
            have HS7 := Lib.hid hs
            have HT7 := Lib.hid (HT6.out.but hb (not2 HNT2.out.1) (not2 HNT2.out.2.1))
            have HB7 := Lib.hid (bel_but HB6.out hb HB6.out.size HG.out HD.out)
            have HP5 := Lib.hid hp5
            have HR7 := Lib.hid hr5
            clear hs hb hp5 hr5 HS6 HT6
            go_wp2_with fail
            (with_reducible refine (refOpenR_v (aN : Int) (z : Int) _ HO.out HT7.out HO5.out (by omega) (by omega)).mono ?_)
            rintro e w8 ⟨v8, rfl, hs, hb, p6, A6, c6, rfl, hp6, hr6⟩
            have HTS8 := Lib.hid (show TS w w8 p5 g d p6 g2 d2 aN z s3 A5 c5 A6 c6 L3 u3 (300 * (j : Int) + 600) by
              refine ⟨(HR7.out.slab7 HT7.out hb).base HB6.out.size, hr6.base HB7.out.size, HS7.out.but hb (not2 HNT2.out.2.2.1) (not2 HNT2.out.2.2.2), hs, HO7.out.more (by omega), by omega, hLu, h0L, bel_but HB7.out hb HB7.out.size HG2.out.1 HG2.out.2, by have := HB6.out.size; have := HB7.out.size; have := HP5.out; omega⟩)
            clear hs hb hp6 hr6 HS7 HT7 HB7 HR7 HO HO7 HO5
            go_wp2_with fail
            go_meet
            exact ⟨s3, p5, A5, c5, p6, A6, c6, L3, u3, lst, rfl, rfl, rfl, by omega, HTS8.out⟩
          · as_aux_lemma =>
            clear hv hv0
            obtain ⟨s1, L1, u1, e1, hA⟩ : ∃ s1 L1 u1 e1, apS s 260 (aN : Int) z L u x1 t = (s1, L1, u1, e1) := ⟨_, _, _, _, rfl⟩
            have HA := Lib.hid hA
            have HOn := Lib.hid (show s1.Ok 260 _ by
              have := apS_ok (a := (aN : Int)) (z := z) (L := L) (u := u) (q := x1) (t := t) HTw.out.ok
              rw [hA] at this
              exact this)
            have HAo := Lib.hid (apS_out hA HTw.out.le HTw.out.cnt HTw.out.last)
            clear hA
            go_upto_region 34 with fail
            refine wp_region_ord (S := fun V => Blk V gx 47 #[.int .i64 x0, .int .i64 x1, .int .i64 x2, .string ⟨t.toArray⟩]) (by kernel_rfl) ?_
            refine ord_take (v := ?_) (i := 0) (fuel := 12) (by simp; rfl) (by kernel_rfl) (by kernel_rfl) (by kernel_rfl) (Or.inl ⟨by rfl, fun w' hSw => ?_⟩) HKd.out ?_
            rotate_left
            · go_simp
              all_goals with_reducible rfl
            simp only [Act.put, List.setIfInBounds_toArray, List.set_cons_zero, List.set_cons_succ]
            refine ord_take (v := ?_) (i := 1) (fuel := 11) (by simp; rfl) (by kernel_rfl) (by kernel_rfl) (by kernel_rfl) (Or.inl ⟨by rfl, fun w' hSw => ?_⟩) HKd.out ?_
            rotate_left
            · go_simp
              all_goals with_reducible rfl
            simp only [Act.put, List.setIfInBounds_toArray, List.set_cons_zero, List.set_cons_succ]
            refine ord_take (v := ?_) (i := 2) (fuel := 10) (by simp; rfl) (by kernel_rfl) (by kernel_rfl) (by kernel_rfl) (Or.inl ⟨by rfl, fun w' hSw => ?_⟩) HKd.out ?_
            rotate_left
            · dsimp only at hSw
              obtain ⟨lx, y0, y1, y2, y3⟩ := blk4 hSw
              go_simp
              all_goals with_reducible rfl
            simp only [Act.put, List.setIfInBounds_toArray, List.set_cons_zero, List.set_cons_succ]
            refine ord_take (v := ?_) (i := 3) (fuel := 9) (by simp; rfl) (by kernel_rfl) (by kernel_rfl) (by kernel_rfl) (Or.inl ⟨by rfl, fun w' hSw => ?_⟩) HKd.out ?_
            rotate_left
            · go_simp
              all_goals with_reducible rfl
            simp only [Act.put, List.setIfInBounds_toArray, List.set_cons_zero, List.set_cons_succ]
            refine ord_take (v := ?_) (i := 4) (fuel := 8) (by simp; rfl) (by kernel_rfl) (by kernel_rfl) (by kernel_rfl) (Or.inl ⟨by rfl, fun w' hSw => ?_⟩) HKd.out ?_
            rotate_left
            · dsimp only at hSw
              obtain ⟨lx, y0, y1, y2, y3⟩ := blk4 hSw
              go_simp
              all_goals with_reducible rfl
            simp only [Act.put, List.setIfInBounds_toArray, List.set_cons_zero, List.set_cons_succ]
            refine ord_take (v := ?_) (i := 6) (fuel := 7) (by simp; rfl) (by kernel_rfl) (by kernel_rfl) (by kernel_rfl) (Or.inl ⟨by rfl, fun w' hSw => ?_⟩) HKd.out ?_
            rotate_left
            · go_simp
              all_goals with_reducible rfl
            simp only [Act.put, List.setIfInBounds_toArray, List.set_cons_zero, List.set_cons_succ]
            refine ord_take (v := ?_) (i := 7) (fuel := 6) (by simp; rfl) (by kernel_rfl) (by kernel_rfl) (by kernel_rfl) (Or.inl ⟨by rfl, fun w' hSw => ?_⟩) HKd.out ?_
            rotate_left
            · go_simp
              all_goals with_reducible rfl
            simp only [Act.put, List.setIfInBounds_toArray, List.set_cons_zero, List.set_cons_succ]
            refine ord_take (v := ?_) (i := 8) (fuel := 5) (by simp; rfl) (by kernel_rfl) (by kernel_rfl) (by kernel_rfl) (Or.inl ⟨by rfl, fun w' hSw => ?_⟩) HKd.out ?_
            rotate_left
            · dsimp only at hSw
              obtain ⟨lx, y0, y1, y2, y3⟩ := blk4 hSw
              go_simp
              all_goals with_reducible rfl
            simp only [Act.put, List.setIfInBounds_toArray, List.set_cons_zero, List.set_cons_succ]
            refine ord_take (v := ?_) (i := 9) (fuel := 4) (by simp; rfl) (by kernel_rfl) (by kernel_rfl) (by kernel_rfl) (Or.inl ⟨by rfl, fun w' hSw => ?_⟩) HKd.out ?_
            rotate_left
            · go_simp
              all_goals with_reducible rfl
            simp only [Act.put, List.setIfInBounds_toArray, List.set_cons_zero, List.set_cons_succ]
            refine ord_take (v := ?_) (i := 10) (fuel := 3) (by simp; rfl) (by kernel_rfl) (by kernel_rfl) (by kernel_rfl) (Or.inl ⟨by rfl, fun w' hSw => ?_⟩) HKd.out ?_
            rotate_left
            · dsimp only at hSw
              obtain ⟨lx, y0, y1, y2, y3⟩ := blk4 hSw
              go_simp
              all_goals with_reducible rfl
            simp only [Act.put, List.setIfInBounds_toArray, List.set_cons_zero, List.set_cons_succ]
            refine ord_call (f := 11) (args := #[.pointer (some ⟨p, 0, none⟩), .int .i64 x1, .string ⟨t.toArray⟩]) (w1 := W.drew) (i := 5) (fuel := 2) (by simp; rfl) (by kernel_rfl) (by rfl) ?_ ?_
            · go_simp
              all_goals with_reducible rfl
            refine (append_v u1 e1 x1 t _ HA.out (show RlG W.drew w.heap.size p g (aN : Int) (z : Int) A c L u from HTw.out.rl) (show SlS W.drew g d 260 s from HTw.out.sl) HTw.out.ok (by omega) (by omega) HTw.out.le HTw.out.cnt (by omega) (show w.heap.size ≤ W.drew.heap.size from HTw.out.bel.size) HTw.out.last (by omega)).mono ?_
            rintro e w5 ⟨rfl, A5, c5, hr, hs, hb0⟩
            have hb : But (p :: g :: d :: rowOf A) W w5 := ((But.refl _ W).drew).trans hb0
            have HR5 := Lib.hid hr
            have HS5 := Lib.hid hs
            have HK5 := Lib.hid (HK.out.but hb (ex_far HTw.out.rl HTw.out.sl.1 HTw.out.sl.2.1 HK.out (by decide) (by decide) (by decide) (.inl (by decide))))
            have HT5 := Lib.hid (keepR HTw.out.rl HTw.out.sl HTw.out.rs HNT2.out.2.1.2 hb)
            have HQ5 := Lib.hid (keepRl HTw.out.rl HTw.out.sl HTw.out.rr hb)
            have HB5 := Lib.hid (but_new HTw.out.bel hb HTw.out.bel.size (rl_ex HTw.out.rl (Nat.le_refl _) HTw.out.pp.1 HG.out HD.out))
            clear hr hs hb hb0
            refine ⟨_, rfl, HK5.out, ?_⟩
            simp only [Act.put, List.setIfInBounds_toArray, List.set_cons_zero, List.set_cons_succ]
            refine ord_call (f := 25) (args := #[.pointer (some ⟨p2, 0, none⟩), .int .i64 x1, .string ⟨t.toArray⟩]) (w1 := w5) (i := 11) (fuel := 1) (by simp; rfl) (by kernel_rfl) (by rfl) ?_ ?_
            · go_simp
              all_goals with_reducible rfl
            refine (appendR_v u1 e1 x1 t _ HA.out HQ5.out HT5.out HTw.out.ok (by omega) (by omega) HTw.out.le HTw.out.cnt (by omega) HB5.out.size HTw.out.last (by omega)).mono ?_
            rintro e w6 ⟨rfl, A6, c6, hr, hs, hb⟩
            have HK6 := Lib.hid (HK5.out.but hb (ex_far HQ5.out HT5.out.1 HT5.out.2.1 HK5.out (by decide) (by decide) (by decide) (.inl (by decide))))
            have HTS6 := Lib.hid (show TS w w6 p g d p2 g2 d2 aN z s1 A5 c5 A6 c6 L1 u1 (300 * (j : Int) + 600) by
              refine ⟨keepSl HQ5.out HT5.out HR5.out hb, hr, keepS HQ5.out HT5.out HS5.out HNT2.out.2.2.2.2 hb, hs, HOn.out.more (by omega), HAo.out.1, HAo.out.2.1, HAo.out.2.2, but_new HB5.out hb HB5.out.size (rl_ex HQ5.out (Nat.le_refl _) HTw.out.pp.2 HG2.out.1 HG2.out.2), HTw.out.pp⟩)
            clear hr hs hb
            refine ⟨_, rfl, HK6.out, ?_⟩
            simp only [Act.put, List.setIfInBounds_toArray, List.set_cons_zero, List.set_cons_succ]
            refine ord_take (v := ?_) (i := 12) (fuel := 0) (by simp; rfl) (by kernel_rfl) (by kernel_rfl) (by kernel_rfl) (Or.inl ⟨by rfl, fun w' hSw => ?_⟩) HK6.out ?_
            rotate_left
            · go_simp
              all_goals with_reducible rfl
            simp only [Act.put, List.setIfInBounds_toArray, List.set_cons_zero, List.set_cons_succ]
            refine ord_done (by kernel_rfl) ?_ _
            go_wp2_with fail
            go_meet
            exact ⟨s1, p, A5, c5, p2, A6, c6, L1, u1, lst, rfl, rfl, rfl, by omega, HTS6.out⟩
          · as_aux_lemma =>
            clear hv hv0 HKd
            obtain ⟨q3, hq3⟩ : ∃ q, pickI x1 300 = q := ⟨_, rfl⟩
            have hq3r := pickI_range x1 300 (by decide)
            rw [hq3] at hq3r
            have HQ3 := Lib.hid hq3
            clear hq3
            obtain ⟨lx, y0, y1, y2, y3⟩ := blk4 HK.out
            obtain ⟨qn, rfl⟩ := Int.eq_ofNat_of_zero_le hq3r.1
            obtain ⟨nl, hnl⟩ : ∃ nl : Nat, lst + 1 + qn = nl := ⟨_, rfl⟩
            have hnl2 : nl ≤ 301 * j + 301 := by omega
            have hnli : (lst : Int) + 1 + (qn : Int) = (nl : Int) := by omega
            have hqn : (qn : Int) < 300 := hq3r.2
            clear hq3r hnl
            go_wp2_with fail
            (with_reducible refine (pick_d x1 300 (qn : Int) W (by decide) (by decide) HQ3.out).mono ?_)
            rintro e w' ⟨rfl, rfl⟩
            obtain ⟨c5, w5, hcv, hbs, hb5⟩ := conv_bytes t W
            have HBs := Lib.hid hbs
            have HT5 := Lib.hid (HTw.out.below hb5)
            clear hbs hb5 HTw
            go_wp2_with fail
            clear hcv
            (with_reducible refine (few_k _ t.length c5 t 30 30 (min t.length 30) _ HBs.out rfl rfl (by omega)).mono ?_)
            rintro e w6 ⟨g6, c6, rfl, ho, hb⟩
            obtain ⟨b, hb0⟩ : ∃ b, t.take 30 = b := ⟨_, rfl⟩
            rw [hb0] at ho
            have hq := str_run ho.bs
            have HT6 := Lib.hid (HT5.out.below hb)
            clear ho hb hb0 HT5 HBs lx y0 y1 y2 y3 HK
            obtain ⟨s1, L1, u1, e1, hA⟩ : ∃ s1 L1 u1 e1, apS s 260 (aN : Int) z L u (nl : Int) b = (s1, L1, u1, e1) := ⟨_, _, _, _, rfl⟩
            have HA := Lib.hid hA
            have HOn := Lib.hid (show s1.Ok 260 _ by
              have := apS_ok (a := (aN : Int)) (z := z) (L := L) (u := u) (q := (nl : Int)) (t := b) HT6.out.ok
              rw [hA] at this
              exact this)
            have HAo := Lib.hid (apS_out hA HT6.out.le HT6.out.cnt HT6.out.last)
            clear hA
            go_wp2_with fail
            clear hq
            (with_reducible refine (append_v u1 e1 (nl : Int) b _ HA.out HT6.out.rl HT6.out.sl HT6.out.ok (by omega) (by omega) HT6.out.le HT6.out.cnt (by omega) HT6.out.bel.size HT6.out.last (by omega)).mono ?_)
            rintro e w7 ⟨rfl, A5, c7, hr, hs, hb⟩
            have HR7 := Lib.hid hr
            have HS7 := Lib.hid hs
            have HT7 := Lib.hid (keepR HT6.out.rl HT6.out.sl HT6.out.rs HNT2.out.2.1.2 hb)
            have HQ7 := Lib.hid (keepRl HT6.out.rl HT6.out.sl HT6.out.rr hb)
            have HB7 := Lib.hid (but_new HT6.out.bel hb HT6.out.bel.size (rl_ex HT6.out.rl (Nat.le_refl _) HT6.out.pp.1 HG.out HD.out))
            clear hr hs hb
            go_wp2_with fail
            (with_reducible refine (appendR_v u1 e1 (nl : Int) b _ HA.out HQ7.out HT7.out HT6.out.ok (by omega) (by omega) HT6.out.le HT6.out.cnt (by omega) HB7.out.size HT6.out.last (by omega)).mono ?_)
            rintro e w8 ⟨rfl, A6, c8, hr, hs, hb⟩
            have HTS8 := Lib.hid (show TS w w8 p g d p2 g2 d2 aN z s1 A5 c7 A6 c8 L1 u1 (300 * (j : Int) + 600) by
              refine ⟨keepSl HQ7.out HT7.out HR7.out hb, hr, keepS HQ7.out HT7.out HS7.out HNT2.out.2.2.2.2 hb, hs, HOn.out.more (by omega), HAo.out.1, HAo.out.2.1, HAo.out.2.2, but_new HB7.out hb HB7.out.size (rl_ex HQ7.out (Nat.le_refl _) HT6.out.pp.2 HG2.out.1 HG2.out.2), HT6.out.pp⟩)
            clear hr hs hb
            go_wp2_with fail
            go_meet
            exact ⟨s1, p, A5, c7, p2, A6, c8, L1, u1, nl, rfl, rfl, rfl, hnl2, HTS8.out⟩
        case rest =>
          as_aux_lemma =>
          clear HTw HK HNg hlst hv hv0
          obtain ⟨s3, p3, A3, c3, p4, A4, c4, L3, u3, lst3, rfl, rfl, rfl, hlst3, hts⟩ := hcut
          have hle := hts.le
          have hcnt := hts.cnt
          have HT := Lib.hid hts
          have HTd := Lib.hid hts.drew
          clear hts
          go_upto_region 36 with fail
          refine wp_region_ord (S := fun V => TS w V p3 g d p4 g2 d2 aN z s3 A3 c3 A4 c4 L3 u3 (300 * (j : Int) + 600)) (by kernel_rfl) ?_
          refine ord_take (v := ?_) (i := 0) (fuel := 14) (by simp; rfl) (by kernel_rfl) (by kernel_rfl) (by kernel_rfl) (Or.inl ⟨by rfl, fun w' hSw => ?_⟩) HTd.out ?_
          rotate_left
          · go_simp
            all_goals with_reducible rfl
          simp only [Act.put, List.setIfInBounds_toArray, List.set_cons_zero, List.set_cons_succ]
          refine ord_take (v := ?_) (i := 2) (fuel := 13) (by simp; rfl) (by kernel_rfl) (by kernel_rfl) (by kernel_rfl) (Or.inl ⟨by rfl, fun w' hSw => ?_⟩) HTd.out ?_
          rotate_left
          · go_simp
            all_goals with_reducible rfl
          simp only [Act.put, List.setIfInBounds_toArray, List.set_cons_zero, List.set_cons_succ]
          refine ord_take (v := ?_) (i := 3) (fuel := 12) (by simp; rfl) (by kernel_rfl) (by kernel_rfl) (by kernel_rfl) (Or.inl ⟨by rfl, fun w' hSw => ?_⟩) HTd.out ?_
          rotate_left
          · dsimp only at hSw
            obtain ⟨lx, y0, y1, y2, y3, y4⟩ := hSw.rr.cells
            go_simp
            all_goals with_reducible rfl
          simp only [Act.put, List.setIfInBounds_toArray, List.set_cons_zero, List.set_cons_succ]
          refine ord_take (v := ?_) (i := 4) (fuel := 11) (by simp; rfl) (by kernel_rfl) (by kernel_rfl) (by kernel_rfl) (Or.inl ⟨by rfl, fun w' hSw => ?_⟩) HTd.out ?_
          rotate_left
          · go_simp
            all_goals with_reducible rfl
          simp only [Act.put, List.setIfInBounds_toArray, List.set_cons_zero, List.set_cons_succ]
          refine ord_take (v := ?_) (i := 5) (fuel := 10) (by simp; rfl) (by kernel_rfl) (by kernel_rfl) (by kernel_rfl) (Or.inl ⟨by rfl, fun w' hSw => ?_⟩) HTd.out ?_
          rotate_left
          · dsimp only at hSw
            obtain ⟨lx, y0, y1, y2, y3, y4⟩ := hSw.rr.cells
            go_simp
            all_goals with_reducible rfl
          simp only [Act.put, List.setIfInBounds_toArray, List.set_cons_zero, List.set_cons_succ]
          refine ord_call (f := 13) (args := #[.pointer (some ⟨p3, 0, none⟩)]) (w1 := wc.drew) (i := 1) (fuel := 9) (by simp; rfl) (by kernel_rfl) (by rfl) ?_ ?_
          · go_simp
            all_goals with_reducible rfl
          refine (records_c L3.length HTd.out.rl rfl (by omega)).mono ?_
          rintro e w5 ⟨A5, c5, rfl, hrc, hb⟩
          have HRc := Lib.hid hrc
          have HT5 := Lib.hid (HTd.out.below hb)
          clear hrc hb
          refine ⟨_, rfl, HT5.out, ?_⟩
          simp only [Act.put, List.setIfInBounds_toArray, List.set_cons_zero, List.set_cons_succ]
          refine ord_call (f := 26) (args := #[.slice A5 L3.length c5, .slice A4 L3.length c4]) (w1 := w5) (i := 6) (fuel := 8) (by simp; rfl) (by kernel_rfl) (by rfl) ?_ ?_
          · go_simp
            all_goals with_reducible rfl
          refine (same_c A5 A4 L3.length c5 c4 L3 w5 rfl HRc.out HT5.out.recs.2 (by omega)).mono ?_
          rintro e w6 ⟨rfl, hb⟩
          have HT6 := Lib.hid (HT5.out.below hb)
          clear hb
          refine ⟨_, rfl, HT6.out, ?_⟩
          simp only [Act.put, List.setIfInBounds_toArray, List.set_cons_zero, List.set_cons_succ]
          refine ord_take (v := ?_) (i := 7) (fuel := 7) (by simp; rfl) (by kernel_rfl) (by kernel_rfl) (by kernel_rfl) (Or.inl ⟨by rfl, fun w' hSw => ?_⟩) HT6.out ?_
          rotate_left
          · go_simp
            all_goals with_reducible rfl
          simp only [Act.put, List.setIfInBounds_toArray, List.set_cons_zero, List.set_cons_succ]
          refine ord_take (v := ?_) (i := 8) (fuel := 6) (by simp; rfl) (by kernel_rfl) (by kernel_rfl) (by kernel_rfl) (Or.inl ⟨by rfl, fun w' hSw => ?_⟩) HT6.out ?_
          rotate_left
          · go_simp
            all_goals with_reducible rfl
          simp only [Act.put, List.setIfInBounds_toArray, List.set_cons_zero, List.set_cons_succ]
          refine ord_take (v := ?_) (i := 9) (fuel := 5) (by simp; rfl) (by kernel_rfl) (by kernel_rfl) (by kernel_rfl) (Or.inl ⟨by rfl, fun w' hSw => ?_⟩) HT6.out ?_
          rotate_left
          · go_simp
            all_goals with_reducible rfl
          simp only [Act.put, List.setIfInBounds_toArray, List.set_cons_zero, List.set_cons_succ]
          refine ord_take (v := ?_) (i := 11) (fuel := 4) (by simp; rfl) (by kernel_rfl) (by kernel_rfl) (by kernel_rfl) (Or.inl ⟨by rfl, fun w' hSw => ?_⟩) HT6.out ?_
          rotate_left
          · go_simp
            all_goals with_reducible rfl
          simp only [Act.put, List.setIfInBounds_toArray, List.set_cons_zero, List.set_cons_succ]
          refine ord_call (f := 16) (args := #[.pointer (some ⟨p3, 0, none⟩)]) (w1 := w6) (i := 10) (fuel := 3) (by simp; rfl) (by kernel_rfl) (by rfl) ?_ ?_
          · go_simp
            all_goals with_reducible rfl
          refine (left_c ((z : Int) - (u3 : Int)) HT6.out.rl rfl (by omega) (by omega) (by omega)).mono ?_
          rintro e w7 ⟨rfl, hb⟩
          have HT7 := Lib.hid (HT6.out.below hb)
          clear hb
          refine ⟨_, rfl, HT7.out, ?_⟩
          simp only [Act.put, List.setIfInBounds_toArray, List.set_cons_zero, List.set_cons_succ]
          refine ord_call (f := 27) (args := #[.pointer (some ⟨p4, 0, none⟩)]) (w1 := w7) (i := 12) (fuel := 2) (by simp; rfl) (by kernel_rfl) (by rfl) ?_ ?_
          · go_simp
            all_goals with_reducible rfl
          refine (refLeft_c ((z : Int) - (u3 : Int)) HT7.out.rr rfl (by omega) (by omega) (by omega)).mono ?_
          rintro e w8 ⟨rfl, hb⟩
          have HT8 := Lib.hid (HT7.out.below hb)
          clear hb
          refine ⟨_, rfl, HT8.out, ?_⟩
          simp only [Act.put, List.setIfInBounds_toArray, List.set_cons_zero, List.set_cons_succ]
          refine ord_take (v := ?_) (i := 13) (fuel := 1) (by simp; rfl) (by kernel_rfl) (by kernel_rfl) (by kernel_rfl) (Or.inl ⟨by rfl, fun w' hSw => ?_⟩) HT8.out ?_
          rotate_left
          · go_simp
            all_goals with_reducible rfl
          simp only [Act.put, List.setIfInBounds_toArray, List.set_cons_zero, List.set_cons_succ]
          refine ord_take (v := ?_) (i := 14) (fuel := 0) (by simp; rfl) (by kernel_rfl) (by kernel_rfl) (by kernel_rfl) (Or.inl ⟨by rfl, fun w' hSw => ?_⟩) HT8.out ?_
          rotate_left
          · go_simp
            all_goals with_reducible rfl
          simp only [Act.put, List.setIfInBounds_toArray, List.set_cons_zero, List.set_cons_succ]
          refine ord_done (by kernel_rfl) ?_ _
          go_wp2
          go_roundw
          case rel => exact ⟨j + 1, s3, p3, A3, c3, p4, A4, c4, L3, u3, lst3, by omega, by go_num, rfl, rfl, rfl, by omega, HT8.out.more (by omega)⟩
          case measure => simp [intOf]; omega
      · as_aux_lemma =>
        have hjn' : ¬ (j : Int) < (n : Int) := by omega
        have hlen := HTS.out.ok.1
        go_wp2_with fail
        (with_reducible refine (revS_w HTS.out.sl).mono ?_)
        rintro e w5 ⟨rfl, hs, hb⟩
        have HS5 := Lib.hid hs
        have HT5 := Lib.hid (HTS.out.rs.but hb (not1 HNT2.out.1.1) (not1 HNT2.out.2.1.1))
        have HB5 := Lib.hid (bel_but1 HTS.out.bel hb HTS.out.bel.size HG.out)
        clear hs hb HTS
        go_wp2_with fail
        (with_reducible refine (readS_yes 0 260 0 260 HS5.out rfl rfl rfl (by decide)).mono ?_)
        rintro e w6 ⟨rfl, hrow, hb⟩
        rw [show ((revS s).l.drop 0).take 260 = s.l by rw [List.drop_zero]; exact List.take_of_length_le (Nat.le_of_eq hlen)] at hrow
        have HW := Lib.hid (hrow.bs hlen)
        have HT6 := Lib.hid (HT5.out.below hb)
        have HB6 := Lib.hid (bel_tr HB5.out hb)
        clear hrow hb HS5 HT5 HB5
        obtain ⟨g5, hg5⟩ : ∃ g5, w5.heap.size = g5 := ⟨_, rfl⟩
        rw [hg5] at HW ⊢
        clear hg5
        go_upto_region 41 with fail
        refine wp_region_ord (S := fun V => V = w6.drew) (by kernel_rfl) ?_
        refine ord_take (v := ?_) (i := 0) (fuel := 11) (by simp; rfl) (by kernel_rfl) (by kernel_rfl) (by kernel_rfl) (Or.inl ⟨by rfl, fun w' hSw => ?_⟩) rfl ?_
        rotate_left
        · go_simp
          all_goals with_reducible rfl
        simp only [Act.put, List.setIfInBounds_toArray, List.set_cons_zero, List.set_cons_succ]
        refine ord_take (v := ?_) (i := 1) (fuel := 10) (by simp; rfl) (by kernel_rfl) (by kernel_rfl) (by kernel_rfl) (Or.inl ⟨by rfl, fun w' hSw => ?_⟩) rfl ?_
        rotate_left
        · go_simp
          all_goals with_reducible rfl
        simp only [Act.put, List.setIfInBounds_toArray, List.set_cons_zero, List.set_cons_succ]
        refine ord_take (v := ?_) (i := 2) (fuel := 9) (by simp; rfl) (by kernel_rfl) (by kernel_rfl) (by kernel_rfl) (Or.inl ⟨by rfl, fun w' hSw => ?_⟩) rfl ?_
        rotate_left
        · go_simp
          all_goals with_reducible rfl
        simp only [Act.put, List.setIfInBounds_toArray, List.set_cons_zero, List.set_cons_succ]
        refine ord_take (v := ?_) (i := 3) (fuel := 8) (by simp; rfl) (by kernel_rfl) (by kernel_rfl) (by kernel_rfl) (Or.inl ⟨by rfl, fun w' hSw => ?_⟩) rfl ?_
        rotate_left
        · dsimp only at hSw
          subst hSw
          have hq := str_run (show Bs w6.drew w6.drew.heap.size (some ⟨g5, 0, none⟩) 260 260 s.l from HW.out)
          go_simp
          all_goals with_reducible rfl
        simp only [Act.put, List.setIfInBounds_toArray, List.set_cons_zero, List.set_cons_succ]
        refine ord_take (v := ?_) (i := 4) (fuel := 7) (by simp; rfl) (by kernel_rfl) (by kernel_rfl) (by kernel_rfl) (Or.inl ⟨by rfl, fun w' hSw => ?_⟩) rfl ?_
        rotate_left
        · go_simp
          all_goals with_reducible rfl
        simp only [Act.put, List.setIfInBounds_toArray, List.set_cons_zero, List.set_cons_succ]
        refine ord_take (v := ?_) (i := 5) (fuel := 6) (by simp; rfl) (by kernel_rfl) (by kernel_rfl) (by kernel_rfl) (Or.inl ⟨by rfl, fun w' hSw => ?_⟩) rfl ?_
        rotate_left
        · dsimp only at hSw
          subst hSw
          obtain ⟨lx, y0⟩ : g2 < w6.drew.heap.size ∧ w6.drew.cell? ⟨g2, 0, none⟩ = some (.slice (some ⟨d2, 0, none⟩) 260 260) := ⟨HT6.out.1.lt, by simpa using HT6.out.1.cell 0⟩
          go_simp
          all_goals with_reducible rfl
        simp only [Act.put, List.setIfInBounds_toArray, List.set_cons_zero, List.set_cons_succ]
        refine ord_take (v := ?_) (i := 6) (fuel := 5) (by simp; rfl) (by kernel_rfl) (by kernel_rfl) (by kernel_rfl) (Or.inl ⟨by rfl, fun w' hSw => ?_⟩) rfl ?_
        rotate_left
        · go_simp
          all_goals with_reducible rfl
        simp only [Act.put, List.setIfInBounds_toArray, List.set_cons_zero, List.set_cons_succ]
        refine ord_take (v := ?_) (i := 7) (fuel := 4) (by simp; rfl) (by kernel_rfl) (by kernel_rfl) (by kernel_rfl) (Or.inl ⟨by rfl, fun w' hSw => ?_⟩) rfl ?_
        rotate_left
        · dsimp only at hSw
          subst hSw
          obtain ⟨lx, y0⟩ : g2 < w6.drew.heap.size ∧ w6.drew.cell? ⟨g2, 0, none⟩ = some (.slice (some ⟨d2, 0, none⟩) 260 260) := ⟨HT6.out.1.lt, by simpa using HT6.out.1.cell 0⟩
          go_simp
          all_goals with_reducible rfl
        simp only [Act.put, List.setIfInBounds_toArray, List.set_cons_zero, List.set_cons_succ]
        refine ord_take (v := ?_) (i := 8) (fuel := 3) (by simp; rfl) (by kernel_rfl) (by kernel_rfl) (by kernel_rfl) (Or.inl ⟨by rfl, fun w' hSw => ?_⟩) rfl ?_
        rotate_left
        · dsimp only at hSw
          subst hSw
          have hq := str_run (show Bs w6.drew w6.drew.heap.size (some ⟨d2, 0, none⟩) 260 260 s.l from Row.bs HT6.out.2.1 hlen)
          go_simp
          all_goals with_reducible rfl
        simp only [Act.put, List.setIfInBounds_toArray, List.set_cons_zero, List.set_cons_succ]
        refine ord_take (v := ?_) (i := 9) (fuel := 2) (by simp; rfl) (by kernel_rfl) (by kernel_rfl) (by kernel_rfl) (Or.inl ⟨by rfl, fun w' hSw => ?_⟩) rfl ?_
        rotate_left
        · go_simp
          all_goals with_reducible rfl
        simp only [Act.put, List.setIfInBounds_toArray, List.set_cons_zero, List.set_cons_succ]
        refine ord_take (v := ?_) (i := 10) (fuel := 1) (by simp; rfl) (by kernel_rfl) (by kernel_rfl) (by kernel_rfl) (Or.inl ⟨by rfl, fun w' hSw => ?_⟩) rfl ?_
        rotate_left
        · go_simp
          all_goals with_reducible rfl
        simp only [Act.put, List.setIfInBounds_toArray, List.set_cons_zero, List.set_cons_succ]
        refine ord_take (v := ?_) (i := 11) (fuel := 0) (by simp; rfl) (by kernel_rfl) (by kernel_rfl) (by kernel_rfl) (Or.inl ⟨by rfl, fun w' hSw => ?_⟩) rfl ?_
        rotate_left
        · go_simp
          all_goals with_reducible rfl
        simp only [Act.put, List.setIfInBounds_toArray, List.set_cons_zero, List.set_cons_succ]
        refine ord_done (by kernel_rfl) ?_ _
        go_wp2
        go_ret
        have hB := HB6.out
        exact ⟨rfl, hB.os, hB.tape, hB.output, hB.size, hB.block⟩
end Go.Proofs.Ytkjckdndkljeeaa

/- The walk of SlabTells. -/
import Derived.Test.YtlaknhbgckppkaaSlabI
import Derived.Test.YtlaknhbgckppkaaSlabG
namespace Go.Proofs.Ytlaknhbgckppkaa
open Go.RowKit
set_option maxRecDepth 100000 in
set_option maxHeartbeats 800000 in
theorem few_k (A : Option Addr) (n c : Nat) (l : List UInt8) (m : Int) (M k : Nat) (w : World) (hl : Bs w w.heap.size A n c l) (hm : m = (M : Int)) (hk : min n M = k) (hn : k ≤ 140737488355328) :
    Calls Try.prog 22 #[.slice A n c, .int .i64 m] w (Cp w k (l.take M)) := by
  subst hm
  obtain ⟨i0, hi, hz0, hz1, hz2⟩ := info_parts Try.i8
  have hnc := hl.room
  have hlen := hl.len
  by_cases hlt : M < n
  · obtain rfl : M = k := by omega
    have HL := Lib.hid (hl.head (k := M) (by omega))
    have hlt' : (M : Int) < (n : Int) := by omega
    have h0 : (0 : Int) ≤ (M : Int) := by omega
    have hMc : (M : Int) ≤ (c : Int) := by omega
    clear hl hlen
    go_enter Try.func22, Try.ntmps22
    cases A with
    | none =>
      have := HL.out.2.2.1 rfl
      omega
    | some ad =>
      go_wp2_with (at_builtin; refine wpList_append_own _ rfl (.tmp 12) (.tmp 13) _ rfl w.heap.size 5 i0 (.int .u8 0) 1 1 Try.u42 hi hz0 hz1 hz2 rfl (by decide) (.slice (some ⟨w.heap.size, 0, none⟩) 0 0) 0 [] rfl (own_zero w) ad M c (Lib.byteCells (l.take M)) rfl (by rw [Lib.byteCells_length, HL.out.len, Nat.mul_one]) ((HL.out.alloc (Nat.le_refl _) _).news ad rfl) (byteCells_ones _) (by unfold maxLen; omega) (by omega) (by simp) ?_; intro v1 w1 hown hgrow hnil)
      go_ret
      rw [Nat.zero_add, List.nil_append] at hown
      obtain ⟨g, c1, rfl, hO⟩ := own_ne hown (fun e => by have := hnil.1 e; simp at this)
      exact ⟨g, c1, rfl, hO, ((Below.refl _ _).alloc (Nat.le_refl _) _).grown hgrow (by simp) (fun k hk => by cases hk; exact Nat.le_refl _)⟩
  · obtain rfl : n = k := by omega
    have HT := Lib.hid (show l.take M = l from List.take_of_length_le (by omega))
    have HL := Lib.hid hl
    have hlt' : ¬ (M : Int) < (n : Int) := by omega
    clear hl hlen
    rw [HT.out]
    cases A with
    | none =>
      obtain rfl : c = 0 := HL.out.2.2.1 rfl
      obtain rfl : n = 0 := by omega
      have HE := Lib.hid (show l = [] from List.eq_nil_of_length_eq_zero HL.out.len)
      go_enter Try.func22, Try.ntmps22
      go_wp2_with (at_builtin; refine wpList_append_own_none rfl (.tmp 12) (.tmp 13) _ rfl w.heap.size 5 i0 1 Try.u42 hi (.slice (some ⟨w.heap.size, 0, none⟩) 0 0) 0 [] rfl (own_zero w) rfl ?_)
      go_ret
      rw [HE.out]
      exact ⟨w.heap.size, 0, rfl, ⟨rfl, own_zero w⟩, (Below.refl _ _).alloc (Nat.le_refl _) _⟩
    | some ad =>
      go_enter Try.func22, Try.ntmps22
      go_wp2_with (at_builtin; refine wpList_append_own _ rfl (.tmp 12) (.tmp 13) _ rfl w.heap.size 5 i0 (.int .u8 0) 1 1 Try.u42 hi hz0 hz1 hz2 rfl (by decide) (.slice (some ⟨w.heap.size, 0, none⟩) 0 0) 0 [] rfl (own_zero w) ad n c (Lib.byteCells l) rfl (by rw [Lib.byteCells_length, HL.out.len, Nat.mul_one]) ((HL.out.alloc (Nat.le_refl _) _).news ad rfl) (byteCells_ones _) (by unfold maxLen; omega) (by omega) (by simp) ?_; intro v1 w1 hown hgrow hnil)
      go_ret
      rw [Nat.zero_add, List.nil_append] at hown
      obtain ⟨g, c1, rfl, hO⟩ := own_ne hown (fun e => by have := hnil.1 e; simp at this)
      exact ⟨g, c1, rfl, hO, ((Below.refl _ _).alloc (Nat.le_refl _) _).grown hgrow (by simp) (fun k hk => by cases hk; exact Nat.le_refl _)⟩
/-- A raw call's cells, from place o of block g on. -/
def RawAt (w : World) (B g o : Nat) : Prop := ∃ (x y z : Int) (A : Option Addr) (m c : Nat) (l : List UInt8), (-9223372036854775808 ≤ x ∧ x ≤ 9223372036854775807) ∧ (-9223372036854775808 ≤ y ∧ y ≤ 9223372036854775807) ∧ (-9223372036854775808 ≤ z ∧ z ≤ 9223372036854775807) ∧ Bs w B A m c l ∧
  w.cell? ⟨g, o, none⟩ = some (.int .i64 x) ∧ w.cell? ⟨g, o + 1, none⟩ = some (.int .i64 y) ∧ w.cell? ⟨g, o + 2, none⟩ = some (.int .i64 z) ∧ w.cell? ⟨g, o + 3, none⟩ = some (.slice A m c)
def Raws (w : World) (A : Option Addr) (n : Nat) : Prop := 0 < n → ∃ g o, A = some ⟨g, o, none⟩ ∧ g < w.heap.size ∧ ∀ i, i < n → RawAt w w.heap.size g (o + i * 4)
theorem RawAt.below {w w' : World} {B g o : Nat} (h : RawAt w B g o) (hb : Below B w w') (hg : g < B) : RawAt w' B g o := by
  obtain ⟨x, y, z, A, m, c, l, h1, h2, h3, hl, c0, c1, c2, c3⟩ := h
  exact ⟨x, y, z, A, m, c, l, h1, h2, h3, hl.below hb, (hb.cell (p := ⟨g, o, none⟩) hg).trans c0, (hb.cell (p := ⟨g, o + 1, none⟩) hg).trans c1, (hb.cell (p := ⟨g, o + 2, none⟩) hg).trans c2, (hb.cell (p := ⟨g, o + 3, none⟩) hg).trans c3⟩
/-- Block g holds a raw call. -/
theorem blk4 {w : World} {g : Nat} {t : TypeId} {a b c d : Value} (h : Blk w g t #[a, b, c, d]) : g < w.heap.size ∧ w.cell? ⟨g, 0, none⟩ = some a ∧ w.cell? ⟨g, 1, none⟩ = some b ∧ w.cell? ⟨g, 2, none⟩ = some c ∧ w.cell? ⟨g, 3, none⟩ = some d := by
  have x0 := h.cell 0
  have x1 := h.cell 1
  have x2 := h.cell 2
  have x3 := h.cell 3
  simp at x0 x1 x2 x3
  exact ⟨h.lt, x0, x1, x2, x3⟩
section
variable {w : World} {g d n : Nat} {s s' : Sst} {β : Bool}
theorem write_v (a : Int) (A : Option Addr) (m c : Nat) (b : List UInt8) (K : Int) (hW : wrS s n a b = (s', β)) (h : SlS w g d n s) (hb : Bs w w.heap.size A m c b) (ho : s.Ok n K) (hK : K < 4611686018427387904) (ha : a ≤ 9223372036854775807) :
    Calls Try.prog 10 #[.pointer (some ⟨g, 0, none⟩), .int .i64 a, .slice A m c] w fun e w' => e = .returned (.bool β) ∧ SlS w' g d n s' ∧ But [g, d] w w' := by
  have := write_all a A m c b K h hb ho hK ha
  rw [hW] at this
  exact this
theorem refWrite_v (a : Int) (A : Option Addr) (m c : Nat) (b : List UInt8) (K : Int) (hW : wrS s n a b = (s', β)) (h : RsS w g d n s) (hb : Bs w w.heap.size A m c b) (ho : s.Ok n K) (hK : K < 4611686018427387904) (ha : a ≤ 9223372036854775807) :
    Calls Try.prog 21 #[.pointer (some ⟨g, 0, none⟩), .int .i64 a, .slice A m c] w fun e w' => e = .returned (.bool β) ∧ RsS w' g d n s' ∧ But [g, d] w w' := by
  have := refWrite_all a A m c b K h hb ho hK ha
  rw [hW] at this
  exact this
theorem wrS_ok' {K : Int} {a : Int} {b : List UInt8} (hW : wrS s n a b = (s', β)) (h : s.Ok n K) : s'.Ok n (K + 1) := by
  have := wrS_ok h a b
  rw [hW] at this
  exact this
theorem read_v (a m : Int) (L : List UInt8) (hR : rdS s n a m = (L, β)) (h : SlS w g d n s) (ha : a ≤ 9223372036854775807) : Calls Try.prog 12 #[.pointer (some ⟨g, 0, none⟩), .int .i64 a, .int .i64 m] w fun e w' => ∃ A n c, e = .returned (.tuple #[.slice A n c, .bool β]) ∧ Bs w' w'.heap.size A n c L ∧ Below w.heap.size w w' := by
  have := read_all a m h ha
  rw [hR] at this
  exact this
theorem refRead_v (a m : Int) (L : List UInt8) (hR : rdS s n a m = (L, β)) (h : RsS w g d n s) (ha : a ≤ 9223372036854775807) : Calls Try.prog 20 #[.pointer (some ⟨g, 0, none⟩), .int .i64 a, .int .i64 m] w fun e w' => ∃ A n c, e = .returned (.tuple #[.slice A n c, .bool β]) ∧ Bs w' w'.heap.size A n c L ∧ Below w.heap.size w w' := by
  have := refRead_all a m h ha
  rw [hR] at this
  exact this
theorem Sst.Ok.len {K : Int} (h : s.Ok n K) : s.l.length = n := h.1
theorem deadS_c (h : SlS w g d n s) : Calls Try.prog 23 #[.pointer (some ⟨g, 0, none⟩)] w fun e w' => e = .returned (.bool s.dead) ∧ w = w' := dead_c h
theorem writesS_c (h : SlS w g d n s) : Calls Try.prog 14 #[.pointer (some ⟨g, 0, none⟩)] w fun e w' => e = .returned (.int .i64 s.k) ∧ w = w' := writes_c h
theorem sizeS_c (h : SlS w g d n s) : Calls Try.prog 15 #[.pointer (some ⟨g, 0, none⟩)] w fun e w' => e = .returned (.int .i64 n) ∧ w = w' := size_c h
theorem RsS.deadCell (h : RsS w g d n s) : w.cell? ⟨g, 3, none⟩ = some (.bool s.dead) := by
  have := h.1.cell 3
  simpa using this
theorem RsS.kCell (h : RsS w g d n s) : w.cell? ⟨g, 4, none⟩ = some (.int .i64 s.k) := by
  have := h.1.cell 4
  simpa using this
theorem RsS.bCell (h : RsS w g d n s) : w.cell? ⟨g, 0, none⟩ = some (.slice (some ⟨d, 0, none⟩) n n) := by
  have := h.1.cell 0
  simpa using this
theorem bs_to {w w' : World} {B m c : Nat} {A : Option Addr} {l : List UInt8} (h : Bs w B A m c l) (hb : Below B w w') (hB : B ≤ w'.heap.size) : Bs w' w'.heap.size A m c l := (h.below hb).more hB
end
def TellsRel (w : World) (g d g2 d2 M len : Nat) (i : Value) (wr : World) : Prop :=
  ∃ (j : Nat) (s : Sst), j ≤ len ∧ i = .int .i64 j ∧ SlS wr g d M s ∧ RsS wr g2 d2 M s ∧ s.Ok M (j : Int) ∧ Below w.heap.size w wr
set_option maxRecDepth 100000 in
set_option maxHeartbeats 6400000 in
theorem slabTells_c (n : Int) (A : Option Addr) (len cap : Nat) (w : World) (hr : Raws w A len) (hl : len ≤ 281474976710656) :
    Calls Try.prog 4 #[.int .i64 n, .slice A len cap] w fun e w' => e = .returned (.bool true) ∧ Below w.heap.size w w' := by
  have HRW := Lib.hid hr
  clear hr
  go_enter Try.func4, Try.ntmps4
  go_wp2_with fail
  (with_reducible refine (pickB n 90 _ (by omega) (by omega)).mono ?_)
  rintro e w' ⟨j0, hj0, rfl, rfl⟩
  obtain ⟨M, hM⟩ : ∃ M : Nat, min (max ((j0 : Int) - 5) 1) 65536 = (M : Int) := ⟨(min (max ((j0 : Int) - 5) 1) 65536).toNat, by omega⟩
  have HM := Lib.hid hM
  have hM0 : 1 ≤ M := by omega
  have hM1 : M ≤ 84 := by omega
  clear hM
  go_wp2_with fail
  (with_reducible refine (new_e _ M _ HM.out).mono ?_)
  rintro e w1 ⟨g, d, rfl, hs, hg, hd, hb⟩
  have HG := Lib.hid hg
  have HD := Lib.hid hd
  have HS1 := Lib.hid (show SlS w1 g d M ⟨List.replicate M 0, 0, false, false, 0, 0⟩ from hs)
  have HB1 := Lib.hid hb
  clear hs hg hd hb
  go_wp2_with fail
  (with_reducible refine (refNew_e _ M _ HM.out).mono ?_)
  rintro e w2 ⟨g2, d2, rfl, hs, hg, hd, hb⟩
  have HG2 := Lib.hid (show w.heap.size ≤ g2 by have := HB1.out.size; omega)
  have HD2 := Lib.hid (show w.heap.size ≤ d2 by have := HB1.out.size; omega)
  have HNT := Lib.hid (apart4 HS1.out.lt.1 HS1.out.lt.2 hg hd)
  have HS2 := Lib.hid (HS1.out.below hb)
  have HT2 := Lib.hid hs
  have HB2 := Lib.hid (bel_tr HB1.out hb)
  clear hs hg hd hb HS1 HB1
  go_upto_region 4 with fail
  have HBd := Lib.hid (show Below w2.heap.size w2 w2.drew from (Below.refl _ _).drew)
  refine wp_region_ord (S := fun V => Below w2.heap.size w2 V) (by kernel_rfl) ?_
  refine ord_call (f := 9) (args := #[]) (w1 := w2.drew) (i := 0) (fuel := 15) (by simp; rfl) (by kernel_rfl) (by rfl) ?_ ?_
  · go_simp
    all_goals with_reducible rfl
  refine (known6_c _).mono ?_
  rintro e w3 ⟨rfl, hb⟩
  have HB3 := Lib.hid (show Below w2.heap.size w2 w3 from HBd.out.trans (hb.mono HBd.out.size))
  clear hb
  refine ⟨_, rfl, HB3.out, ?_⟩
  simp only [Act.put, List.setIfInBounds_toArray, List.set_cons_zero, List.set_cons_succ]
  refine ord_take (v := ?_) (i := 1) (fuel := 14) (by simp; rfl) (by kernel_rfl) (by kernel_rfl) (by kernel_rfl) (Or.inl ⟨by rfl, fun w' hSw => ?_⟩) HB3.out ?_
  rotate_left
  · go_simp
    all_goals with_reducible rfl
  simp only [Act.put, List.setIfInBounds_toArray, List.set_cons_zero, List.set_cons_succ]
  refine ord_take (v := ?_) (i := 2) (fuel := 13) (by simp; rfl) (by kernel_rfl) (by kernel_rfl) (by kernel_rfl) (Or.inl ⟨by rfl, fun w' hSw => ?_⟩) HB3.out ?_
  rotate_left
  · go_simp
    all_goals with_reducible rfl
  simp only [Act.put, List.setIfInBounds_toArray, List.set_cons_zero, List.set_cons_succ]
  refine ord_take (v := ?_) (i := 3) (fuel := 12) (by simp; rfl) (by kernel_rfl) (by kernel_rfl) (by kernel_rfl) (Or.inl ⟨by rfl, fun w' hSw => ?_⟩) HB3.out ?_
  rotate_left
  · go_simp
    all_goals with_reducible rfl
  simp only [Act.put, List.setIfInBounds_toArray, List.set_cons_zero, List.set_cons_succ]
  refine ord_take (v := ?_) (i := 4) (fuel := 11) (by simp; rfl) (by kernel_rfl) (by kernel_rfl) (by kernel_rfl) (Or.inl ⟨by rfl, fun w' hSw => ?_⟩) HB3.out ?_
  rotate_left
  · go_simp
    all_goals with_reducible rfl
  simp only [Act.put, List.setIfInBounds_toArray, List.set_cons_zero, List.set_cons_succ]
  refine ord_take (v := ?_) (i := 5) (fuel := 10) (by simp; rfl) (by kernel_rfl) (by kernel_rfl) (by kernel_rfl) (Or.inl ⟨by rfl, fun w' hSw => ?_⟩) HB3.out ?_
  rotate_left
  · go_simp
    all_goals with_reducible rfl
  simp only [Act.put, List.setIfInBounds_toArray, List.set_cons_zero, List.set_cons_succ]
  refine ord_take (v := ?_) (i := 6) (fuel := 9) (by simp; rfl) (by kernel_rfl) (by kernel_rfl) (by kernel_rfl) (Or.inl ⟨by rfl, fun w' hSw => ?_⟩) HB3.out ?_
  rotate_left
  · go_simp
    all_goals with_reducible rfl
  simp only [Act.put, List.setIfInBounds_toArray, List.set_cons_zero, List.set_cons_succ]
  refine ord_take (v := ?_) (i := 7) (fuel := 8) (by simp; rfl) (by kernel_rfl) (by kernel_rfl) (by kernel_rfl) (Or.inl ⟨by rfl, fun w' hSw => ?_⟩) HB3.out ?_
  rotate_left
  · go_simp
    all_goals with_reducible rfl
  simp only [Act.put, List.setIfInBounds_toArray, List.set_cons_zero, List.set_cons_succ]
  refine ord_take (v := ?_) (i := 9) (fuel := 7) (by simp; rfl) (by kernel_rfl) (by kernel_rfl) (by kernel_rfl) (Or.inl ⟨by rfl, fun w' hSw => ?_⟩) HB3.out ?_
  rotate_left
  · go_simp
    all_goals with_reducible rfl
  simp only [Act.put, List.setIfInBounds_toArray, List.set_cons_zero, List.set_cons_succ]
  refine ord_take (v := ?_) (i := 10) (fuel := 6) (by simp; rfl) (by kernel_rfl) (by kernel_rfl) (by kernel_rfl) (Or.inl ⟨by rfl, fun w' hSw => ?_⟩) HB3.out ?_
  rotate_left
  · go_simp
    all_goals with_reducible rfl
  simp only [Act.put, List.setIfInBounds_toArray, List.set_cons_zero, List.set_cons_succ]
  refine ord_take (v := ?_) (i := 11) (fuel := 5) (by simp; rfl) (by kernel_rfl) (by kernel_rfl) (by kernel_rfl) (Or.inl ⟨by rfl, fun w' hSw => ?_⟩) HB3.out ?_
  rotate_left
  · go_simp
    all_goals with_reducible rfl
  simp only [Act.put, List.setIfInBounds_toArray, List.set_cons_zero, List.set_cons_succ]
  refine ord_take (v := ?_) (i := 12) (fuel := 4) (by simp; rfl) (by kernel_rfl) (by kernel_rfl) (by kernel_rfl) (Or.inl ⟨by rfl, fun w' hSw => ?_⟩) HB3.out ?_
  rotate_left
  · dsimp only at hSw
    have cc := (RsS.below HT2.out hSw).1.cell 0
    simp at cc
    go_simp
    all_goals with_reducible rfl
  simp only [Act.put, List.setIfInBounds_toArray, List.set_cons_zero, List.set_cons_succ]
  refine ord_take (v := ?_) (i := 13) (fuel := 3) (by simp; rfl) (by kernel_rfl) (by kernel_rfl) (by kernel_rfl) (Or.inl ⟨by rfl, fun w' hSw => ?_⟩) HB3.out ?_
  rotate_left
  · go_simp
    all_goals with_reducible rfl
  simp only [Act.put, List.setIfInBounds_toArray, List.set_cons_zero, List.set_cons_succ]
  refine ord_call (f := 15) (args := #[.pointer (some ⟨g, 0, none⟩)]) (w1 := w3) (i := 8) (fuel := 2) (by simp; rfl) (by kernel_rfl) (by rfl) ?_ ?_
  · go_simp
    all_goals with_reducible rfl
  refine (size_c (HS2.out.below HB3.out)).mono ?_
  rintro e w' ⟨rfl, rfl⟩
  refine ⟨_, rfl, HB3.out, ?_⟩
  simp only [Act.put, List.setIfInBounds_toArray, List.set_cons_zero, List.set_cons_succ]
  refine ord_take (v := ?_) (i := 14) (fuel := 1) (by simp; rfl) (by kernel_rfl) (by kernel_rfl) (by kernel_rfl) (Or.inl ⟨by rfl, fun w' hSw => ?_⟩) HB3.out ?_
  rotate_left
  · go_simp
    all_goals with_reducible rfl
  simp only [Act.put, List.setIfInBounds_toArray, List.set_cons_zero, List.set_cons_succ]
  refine ord_take (v := ?_) (i := 15) (fuel := 0) (by simp; rfl) (by kernel_rfl) (by kernel_rfl) (by kernel_rfl) (Or.inl ⟨by rfl, fun w' hSw => ?_⟩) HB3.out ?_
  rotate_left
  · go_simp
    all_goals with_reducible rfl
  simp only [Act.put, List.setIfInBounds_toArray, List.set_cons_zero, List.set_cons_succ]
  refine ord_done (by kernel_rfl) ?_ _
  have HS3 := Lib.hid (HS2.out.below HB3.out)
  have HT3 := Lib.hid (HT2.out.below HB3.out)
  have HBw := Lib.hid (bel_tr HB2.out HB3.out)
  clear HS2 HT2 HB2 HB3 HBd
  go_wp2
  go_loopw [43] (fun i wr => TellsRel w g d g2 d2 M len i wr) (fun i _ => len - (intOf i).toNat)
  case atStart => exact ⟨0, ⟨List.replicate M 0, 0, false, false, 0, 0⟩, by omega, rfl, HS3.out, HT3.out, ⟨by simp, by simp, by simp, fun e => by cases e⟩, HBw.out⟩
  case round =>
    obtain ⟨j, s, hj, rfl, hs, ht, ho, hb⟩ := hrel
    have HS := Lib.hid hs
    have HT := Lib.hid ht
    have HOk := Lib.hid ho
    have HB := Lib.hid hb
    clear hs ht ho hb HS3 HT3 HBw
    by_cases hjl : j < len
    · have hjl' : (j : Int) < (len : Int) := by omega
      obtain ⟨ga, oa, eA, hga, hat⟩ := HRW.out (by omega)
      obtain ⟨x, y, z, Ab, mb, cb, lb, hx, hy, hz, hbs, c0, c1, c2, c3⟩ := (hat j hjl).below HB.out hga
      have HBs := Lib.hid hbs
      have HX := Lib.hid hx
      have HY := Lib.hid hy
      have HZ := Lib.hid hz
      subst eA
      clear hat hbs hx hy hz
      go_wp2_with fail
      obtain ⟨W, hW⟩ : ∃ W, wr.alloc (.cells #[.int .i64 x, .int .i64 y, .int .i64 z, .slice Ab mb cb] 38) = W := ⟨_, rfl⟩
      obtain ⟨gx, hgx⟩ : ∃ gx, wr.heap.size = gx := ⟨_, rfl⟩
      have hbW : Below wr.heap.size wr W := by rw [← hW]; exact (Below.refl _ _).alloc (Nat.le_refl _) _
      have HK := Lib.hid (show Blk W gx 38 #[.int .i64 x, .int .i64 y, .int .i64 z, .slice Ab mb cb] by rw [← hW, ← hgx]; exact Blk.new _ _ _)
      have HNg := Lib.hid (show (gx ≠ g ∧ gx ≠ d) ∧ (gx ≠ g2 ∧ gx ≠ d2) by have := HS.out.lt; have := HT.out.lt; omega)
      have HSw := Lib.hid (HS.out.below hbW)
      have HTw := Lib.hid (HT.out.below hbW)
      have HBw := Lib.hid (bel_tr HB.out hbW)
      have HBsw := Lib.hid (HBs.out.below (hbW.mono HB.out.size))
      rw [hW, hgx]
      clear hW hgx hbW HS HT HB HBs c0 c1 c2 c3
      obtain ⟨lx, x0, x1, x2, x3⟩ := blk4 HK.out
      (with_reducible refine (pickB y 90 _ (by omega) (by omega)).mono ?_)
      rintro e w' ⟨pa, hpa, rfl, rfl⟩
      go_wp2_with fail
      (with_reducible refine (pickB z 20 _ (by omega) (by omega)).mono ?_)
      rintro e w' ⟨pm, hpm, rfl, rfl⟩
      go_wp2_with fail
      (with_reducible refine (pickB x 9 _ (by omega) (by omega)).mono ?_)
      rintro e w' ⟨v, hv, rfl, rfl⟩
      obtain ⟨vi, hvi⟩ : ∃ vi : Int, (v : Int) = vi := ⟨_, rfl⟩
      rw [hvi]
      rw [hvi] at hv
      have hv0 : 0 ≤ vi := by omega
      clear hvi
      have HAm := Lib.hid (show (pa : Int) - 3 ≤ 9223372036854775807 by omega)
      have HMm := Lib.hid (show (pm : Int) - 2 ≤ 9223372036854775807 by omega)
      have HJK := Lib.hid (show (j : Int) < 4611686018427387904 by omega)
      have HJ1 := Lib.hid (show j + 1 ≤ len ∧ ((j + 1 : Nat) : Int) = (j : Int) + 1 by omega)
      rcases (show vi = 0 ∨ vi = 1 ∨ vi = 2 ∨ vi = 3 ∨ vi = 4 ∨ (vi ≠ 0 ∧ vi ≠ 1 ∧ vi ≠ 2 ∧ vi ≠ 3 ∧ vi ≠ 4) by omega) with rfl | rfl | rfl | rfl | rfl | ⟨n0, n1, n2, n3, n4⟩
      · as_aux_lemma =>
        clear hv hv0
        go_wp2_with fail
        (with_reducible refine (cut_all _ _ HSw.out).mono ?_)
        rintro e w5 ⟨rfl, hs, ht⟩
        have HS5 := Lib.hid hs
        have HT5 := Lib.hid (HTw.out.but ht (not1 HNT.out.1.1) (not1 HNT.out.2.1.1))
        have HB5 := Lib.hid (bel_but1 HBw.out ht HBw.out.size HG.out)
        clear hs ht lx x0 x1 x2 x3
        go_wp2_with fail
        (with_reducible refine (refCut_all _ _ HT5.out).mono ?_)
        rintro e w6 ⟨rfl, hs, ht⟩
        have HT6 := Lib.hid hs
        have HS6 := Lib.hid (HS5.out.but ht (not1 HNT.out.2.2.1.1) (not1 HNT.out.2.2.2.1))
        have HB6 := Lib.hid (bel_but1 HB5.out ht HB5.out.size HG2.out)
        have HO6 := Lib.hid (cutS_ok HOk.out ((pa : Int) - 3) HMm.out)
        clear hs ht HS5 HT5 HB5
        revert HT6 HS6 HO6
        generalize cutS s ((pm : Int) - 2) ((pa : Int) - 3) = s6
        intro HT6 HS6 HO6
        go_upto_region 30 with fail
        refine wp_region_ord (S := fun V => V = w6.drew) (by kernel_rfl) ?_
        refine ord_take (v := ?_) (i := 0) (fuel := 15) (by simp; rfl) (by kernel_rfl) (by kernel_rfl) (by kernel_rfl) (Or.inl ⟨by rfl, fun w' hSw => ?_⟩) rfl ?_
        rotate_left
        · go_simp
          all_goals with_reducible rfl
        simp only [Act.put, List.setIfInBounds_toArray, List.set_cons_zero, List.set_cons_succ]
        refine ord_take (v := ?_) (i := 2) (fuel := 14) (by simp; rfl) (by kernel_rfl) (by kernel_rfl) (by kernel_rfl) (Or.inl ⟨by rfl, fun w' hSw => ?_⟩) rfl ?_
        rotate_left
        · go_simp
          all_goals with_reducible rfl
        simp only [Act.put, List.setIfInBounds_toArray, List.set_cons_zero, List.set_cons_succ]
        refine ord_take (v := ?_) (i := 3) (fuel := 13) (by simp; rfl) (by kernel_rfl) (by kernel_rfl) (by kernel_rfl) (Or.inl ⟨by rfl, fun w' hSw => ?_⟩) rfl ?_
        rotate_left
        · go_simp
          all_goals with_reducible rfl
        simp only [Act.put, List.setIfInBounds_toArray, List.set_cons_zero, List.set_cons_succ]
        refine ord_take (v := ?_) (i := 4) (fuel := 12) (by simp; rfl) (by kernel_rfl) (by kernel_rfl) (by kernel_rfl) (Or.inl ⟨by rfl, fun w' hSw => ?_⟩) rfl ?_
        rotate_left
        · go_simp
          all_goals with_reducible rfl
        simp only [Act.put, List.setIfInBounds_toArray, List.set_cons_zero, List.set_cons_succ]
        refine ord_take (v := ?_) (i := 5) (fuel := 11) (by simp; rfl) (by kernel_rfl) (by kernel_rfl) (by kernel_rfl) (Or.inl ⟨by rfl, fun w' hSw => ?_⟩) rfl ?_
        rotate_left
        · dsimp only at hSw
          subst hSw
          have cc : w6.drew.cell? ⟨g2, 3, none⟩ = _ := HT6.out.deadCell
          go_simp
          all_goals with_reducible rfl
        simp only [Act.put, List.setIfInBounds_toArray, List.set_cons_zero, List.set_cons_succ]
        refine ord_call (f := 23) (args := #[.pointer (some ⟨g, 0, none⟩)]) (w1 := w6.drew) (i := 1) (fuel := 10) (by simp; rfl) (by kernel_rfl) (by rfl) ?_ ?_
        · go_simp
          all_goals with_reducible rfl
        refine (deadS_c (show SlS w6.drew g d M s6 from HS6.out)).mono ?_
        rintro e w' ⟨rfl, rfl⟩
        refine ⟨_, rfl, rfl, ?_⟩
        simp only [Act.put, List.setIfInBounds_toArray, List.set_cons_zero, List.set_cons_succ]
        refine ord_take (v := ?_) (i := 6) (fuel := 9) (by simp; rfl) (by kernel_rfl) (by kernel_rfl) (by kernel_rfl) (Or.inl ⟨by rfl, fun w' hSw => ?_⟩) rfl ?_
        rotate_left
        · go_simp
          all_goals with_reducible rfl
        simp only [Act.put, List.setIfInBounds_toArray, List.set_cons_zero, List.set_cons_succ]
        refine ord_take (v := ?_) (i := 7) (fuel := 8) (by simp; rfl) (by kernel_rfl) (by kernel_rfl) (by kernel_rfl) (Or.inl ⟨by rfl, fun w' hSw => ?_⟩) rfl ?_
        rotate_left
        · go_simp
          all_goals with_reducible rfl
        simp only [Act.put, List.setIfInBounds_toArray, List.set_cons_zero, List.set_cons_succ]
        refine ord_take (v := ?_) (i := 8) (fuel := 7) (by simp; rfl) (by kernel_rfl) (by kernel_rfl) (by kernel_rfl) (Or.inl ⟨by rfl, fun w' hSw => ?_⟩) rfl ?_
        rotate_left
        · go_simp
          all_goals with_reducible rfl
        simp only [Act.put, List.setIfInBounds_toArray, List.set_cons_zero, List.set_cons_succ]
        refine ord_take (v := ?_) (i := 10) (fuel := 6) (by simp; rfl) (by kernel_rfl) (by kernel_rfl) (by kernel_rfl) (Or.inl ⟨by rfl, fun w' hSw => ?_⟩) rfl ?_
        rotate_left
        · go_simp
          all_goals with_reducible rfl
        simp only [Act.put, List.setIfInBounds_toArray, List.set_cons_zero, List.set_cons_succ]
        refine ord_take (v := ?_) (i := 11) (fuel := 5) (by simp; rfl) (by kernel_rfl) (by kernel_rfl) (by kernel_rfl) (Or.inl ⟨by rfl, fun w' hSw => ?_⟩) rfl ?_
        rotate_left
        · go_simp
          all_goals with_reducible rfl
        simp only [Act.put, List.setIfInBounds_toArray, List.set_cons_zero, List.set_cons_succ]
        refine ord_take (v := ?_) (i := 12) (fuel := 4) (by simp; rfl) (by kernel_rfl) (by kernel_rfl) (by kernel_rfl) (Or.inl ⟨by rfl, fun w' hSw => ?_⟩) rfl ?_
        rotate_left
        · go_simp
          all_goals with_reducible rfl
        simp only [Act.put, List.setIfInBounds_toArray, List.set_cons_zero, List.set_cons_succ]
        refine ord_take (v := ?_) (i := 13) (fuel := 3) (by simp; rfl) (by kernel_rfl) (by kernel_rfl) (by kernel_rfl) (Or.inl ⟨by rfl, fun w' hSw => ?_⟩) rfl ?_
        rotate_left
        · dsimp only at hSw
          subst hSw
          have cc : w6.drew.cell? ⟨g2, 4, none⟩ = _ := HT6.out.kCell
          go_simp
          all_goals with_reducible rfl
        simp only [Act.put, List.setIfInBounds_toArray, List.set_cons_zero, List.set_cons_succ]
        refine ord_call (f := 14) (args := #[.pointer (some ⟨g, 0, none⟩)]) (w1 := w6.drew) (i := 9) (fuel := 2) (by simp; rfl) (by kernel_rfl) (by rfl) ?_ ?_
        · go_simp
          all_goals with_reducible rfl
        refine (writesS_c (show SlS w6.drew g d M s6 from HS6.out)).mono ?_
        rintro e w' ⟨rfl, rfl⟩
        refine ⟨_, rfl, rfl, ?_⟩
        simp only [Act.put, List.setIfInBounds_toArray, List.set_cons_zero, List.set_cons_succ]
        refine ord_take (v := ?_) (i := 14) (fuel := 1) (by simp; rfl) (by kernel_rfl) (by kernel_rfl) (by kernel_rfl) (Or.inl ⟨by rfl, fun w' hSw => ?_⟩) rfl ?_
        rotate_left
        · go_simp
          all_goals with_reducible rfl
        simp only [Act.put, List.setIfInBounds_toArray, List.set_cons_zero, List.set_cons_succ]
        refine ord_take (v := ?_) (i := 15) (fuel := 0) (by simp; rfl) (by kernel_rfl) (by kernel_rfl) (by kernel_rfl) (Or.inl ⟨by rfl, fun w' hSw => ?_⟩) rfl ?_
        rotate_left
        · go_simp
          all_goals with_reducible rfl
        simp only [Act.put, List.setIfInBounds_toArray, List.set_cons_zero, List.set_cons_succ]
        refine ord_done (by kernel_rfl) ?_ _
        go_wp2
        go_roundw
        case rel => exact ⟨j + 1, s6, HJ1.out.1, by go_num, HS6.out, HT6.out, by rw [HJ1.out.2]; exact HO6.out, HB6.out.drew⟩
        case measure => simp [intOf]; omega
      · as_aux_lemma =>
        clear hv hv0
        go_wp2_with fail
        (with_reducible refine (revive_all HSw.out).mono ?_)
        rintro e w5 ⟨rfl, hs, ht⟩
        have HS5 := Lib.hid hs
        have HT5 := Lib.hid (HTw.out.but ht (not1 HNT.out.1.1) (not1 HNT.out.2.1.1))
        have HB5 := Lib.hid (bel_but1 HBw.out ht HBw.out.size HG.out)
        clear hs ht lx x0 x1 x2 x3
        go_wp2_with fail
        (with_reducible refine (refRevive_all HT5.out).mono ?_)
        rintro e w6 ⟨rfl, hs, ht⟩
        have HT6 := Lib.hid hs
        have HS6 := Lib.hid (HS5.out.but ht (not1 HNT.out.2.2.1.1) (not1 HNT.out.2.2.2.1))
        have HB6 := Lib.hid (bel_but1 HB5.out ht HB5.out.size HG2.out)
        have HO6 := Lib.hid (revS_ok HOk.out)
        clear hs ht HS5 HT5 HB5
        revert HT6 HS6 HO6
        generalize revS s = s6
        intro HT6 HS6 HO6
        go_upto_region 30 with fail
        refine wp_region_ord (S := fun V => V = w6.drew) (by kernel_rfl) ?_
        refine ord_take (v := ?_) (i := 0) (fuel := 15) (by simp; rfl) (by kernel_rfl) (by kernel_rfl) (by kernel_rfl) (Or.inl ⟨by rfl, fun w' hSw => ?_⟩) rfl ?_
        rotate_left
        · go_simp
          all_goals with_reducible rfl
        simp only [Act.put, List.setIfInBounds_toArray, List.set_cons_zero, List.set_cons_succ]
        refine ord_take (v := ?_) (i := 2) (fuel := 14) (by simp; rfl) (by kernel_rfl) (by kernel_rfl) (by kernel_rfl) (Or.inl ⟨by rfl, fun w' hSw => ?_⟩) rfl ?_
        rotate_left
        · go_simp
          all_goals with_reducible rfl
        simp only [Act.put, List.setIfInBounds_toArray, List.set_cons_zero, List.set_cons_succ]
        refine ord_take (v := ?_) (i := 3) (fuel := 13) (by simp; rfl) (by kernel_rfl) (by kernel_rfl) (by kernel_rfl) (Or.inl ⟨by rfl, fun w' hSw => ?_⟩) rfl ?_
        rotate_left
        · go_simp
          all_goals with_reducible rfl
        simp only [Act.put, List.setIfInBounds_toArray, List.set_cons_zero, List.set_cons_succ]
        refine ord_take (v := ?_) (i := 4) (fuel := 12) (by simp; rfl) (by kernel_rfl) (by kernel_rfl) (by kernel_rfl) (Or.inl ⟨by rfl, fun w' hSw => ?_⟩) rfl ?_
        rotate_left
        · go_simp
          all_goals with_reducible rfl
        simp only [Act.put, List.setIfInBounds_toArray, List.set_cons_zero, List.set_cons_succ]
        refine ord_take (v := ?_) (i := 5) (fuel := 11) (by simp; rfl) (by kernel_rfl) (by kernel_rfl) (by kernel_rfl) (Or.inl ⟨by rfl, fun w' hSw => ?_⟩) rfl ?_
        rotate_left
        · dsimp only at hSw
          subst hSw
          have cc : w6.drew.cell? ⟨g2, 3, none⟩ = _ := HT6.out.deadCell
          go_simp
          all_goals with_reducible rfl
        simp only [Act.put, List.setIfInBounds_toArray, List.set_cons_zero, List.set_cons_succ]
        refine ord_call (f := 23) (args := #[.pointer (some ⟨g, 0, none⟩)]) (w1 := w6.drew) (i := 1) (fuel := 10) (by simp; rfl) (by kernel_rfl) (by rfl) ?_ ?_
        · go_simp
          all_goals with_reducible rfl
        refine (deadS_c (show SlS w6.drew g d M s6 from HS6.out)).mono ?_
        rintro e w' ⟨rfl, rfl⟩
        refine ⟨_, rfl, rfl, ?_⟩
        simp only [Act.put, List.setIfInBounds_toArray, List.set_cons_zero, List.set_cons_succ]
        refine ord_take (v := ?_) (i := 6) (fuel := 9) (by simp; rfl) (by kernel_rfl) (by kernel_rfl) (by kernel_rfl) (Or.inl ⟨by rfl, fun w' hSw => ?_⟩) rfl ?_
        rotate_left
        · go_simp
          all_goals with_reducible rfl
        simp only [Act.put, List.setIfInBounds_toArray, List.set_cons_zero, List.set_cons_succ]
        refine ord_take (v := ?_) (i := 7) (fuel := 8) (by simp; rfl) (by kernel_rfl) (by kernel_rfl) (by kernel_rfl) (Or.inl ⟨by rfl, fun w' hSw => ?_⟩) rfl ?_
        rotate_left
        · go_simp
          all_goals with_reducible rfl
        simp only [Act.put, List.setIfInBounds_toArray, List.set_cons_zero, List.set_cons_succ]
        refine ord_take (v := ?_) (i := 8) (fuel := 7) (by simp; rfl) (by kernel_rfl) (by kernel_rfl) (by kernel_rfl) (Or.inl ⟨by rfl, fun w' hSw => ?_⟩) rfl ?_
        rotate_left
        · go_simp
          all_goals with_reducible rfl
        simp only [Act.put, List.setIfInBounds_toArray, List.set_cons_zero, List.set_cons_succ]
        refine ord_take (v := ?_) (i := 10) (fuel := 6) (by simp; rfl) (by kernel_rfl) (by kernel_rfl) (by kernel_rfl) (Or.inl ⟨by rfl, fun w' hSw => ?_⟩) rfl ?_
        rotate_left
        · go_simp
          all_goals with_reducible rfl
        simp only [Act.put, List.setIfInBounds_toArray, List.set_cons_zero, List.set_cons_succ]
        refine ord_take (v := ?_) (i := 11) (fuel := 5) (by simp; rfl) (by kernel_rfl) (by kernel_rfl) (by kernel_rfl) (Or.inl ⟨by rfl, fun w' hSw => ?_⟩) rfl ?_
        rotate_left
        · go_simp
          all_goals with_reducible rfl
        simp only [Act.put, List.setIfInBounds_toArray, List.set_cons_zero, List.set_cons_succ]
        refine ord_take (v := ?_) (i := 12) (fuel := 4) (by simp; rfl) (by kernel_rfl) (by kernel_rfl) (by kernel_rfl) (Or.inl ⟨by rfl, fun w' hSw => ?_⟩) rfl ?_
        rotate_left
        · go_simp
          all_goals with_reducible rfl
        simp only [Act.put, List.setIfInBounds_toArray, List.set_cons_zero, List.set_cons_succ]
        refine ord_take (v := ?_) (i := 13) (fuel := 3) (by simp; rfl) (by kernel_rfl) (by kernel_rfl) (by kernel_rfl) (Or.inl ⟨by rfl, fun w' hSw => ?_⟩) rfl ?_
        rotate_left
        · dsimp only at hSw
          subst hSw
          have cc : w6.drew.cell? ⟨g2, 4, none⟩ = _ := HT6.out.kCell
          go_simp
          all_goals with_reducible rfl
        simp only [Act.put, List.setIfInBounds_toArray, List.set_cons_zero, List.set_cons_succ]
        refine ord_call (f := 14) (args := #[.pointer (some ⟨g, 0, none⟩)]) (w1 := w6.drew) (i := 9) (fuel := 2) (by simp; rfl) (by kernel_rfl) (by rfl) ?_ ?_
        · go_simp
          all_goals with_reducible rfl
        refine (writesS_c (show SlS w6.drew g d M s6 from HS6.out)).mono ?_
        rintro e w' ⟨rfl, rfl⟩
        refine ⟨_, rfl, rfl, ?_⟩
        simp only [Act.put, List.setIfInBounds_toArray, List.set_cons_zero, List.set_cons_succ]
        refine ord_take (v := ?_) (i := 14) (fuel := 1) (by simp; rfl) (by kernel_rfl) (by kernel_rfl) (by kernel_rfl) (Or.inl ⟨by rfl, fun w' hSw => ?_⟩) rfl ?_
        rotate_left
        · go_simp
          all_goals with_reducible rfl
        simp only [Act.put, List.setIfInBounds_toArray, List.set_cons_zero, List.set_cons_succ]
        refine ord_take (v := ?_) (i := 15) (fuel := 0) (by simp; rfl) (by kernel_rfl) (by kernel_rfl) (by kernel_rfl) (Or.inl ⟨by rfl, fun w' hSw => ?_⟩) rfl ?_
        rotate_left
        · go_simp
          all_goals with_reducible rfl
        simp only [Act.put, List.setIfInBounds_toArray, List.set_cons_zero, List.set_cons_succ]
        refine ord_done (by kernel_rfl) ?_ _
        go_wp2
        go_roundw
        case rel => exact ⟨j + 1, s6, HJ1.out.1, by go_num, HS6.out, HT6.out, by rw [HJ1.out.2]; exact HO6.out, HB6.out.drew⟩
        case measure => simp [intOf]; omega
      · as_aux_lemma =>
        clear hv hv0
        obtain ⟨L, β, hRd⟩ : ∃ L β, rdS s M ((pa : Int) - 3) ((pm : Int) - 2) = (L, β) := ⟨_, _, rfl⟩
        have HRd := Lib.hid hRd
        have HO6 := Lib.hid (HOk.out.more (show (j : Int) ≤ (j : Int) + 1 by omega))
        clear hRd
        go_wp2_with fail
        (with_reducible refine (read_v _ _ L HRd.out HSw.out HAm.out).mono ?_)
        rintro e w5 ⟨A1, n1, c1, rfl, hr, hb⟩
        have HR5 := Lib.hid hr
        have HS5 := Lib.hid (HSw.out.below hb)
        have HT5 := Lib.hid (HTw.out.below hb)
        have HB5 := Lib.hid (bel_tr HBw.out hb)
        clear hr hb lx x0 x1 x2 x3
        go_wp2_with fail
        (with_reducible refine (refRead_v _ _ L HRd.out HT5.out HAm.out).mono ?_)
        rintro e w6 ⟨A2, n2, c2, rfl, hr, hb⟩
        have hc2 := str_run hr
        have hc1 := str_run (HR5.out.below hb)
        have HS6 := Lib.hid (HS5.out.below hb)
        have HT6 := Lib.hid (HT5.out.below hb)
        have HB6 := Lib.hid (bel_tr HB5.out hb)
        clear hr hb HS5 HT5 HB5 HR5
        obtain ⟨s6, hs6⟩ : ∃ s6, s = s6 := ⟨_, rfl⟩
        rw [hs6] at HS6 HT6 HO6
        clear hs6
        go_upto_region 30 with fail
        refine wp_region_ord (S := fun V => V = w6.drew) (by kernel_rfl) ?_
        refine ord_take (v := ?_) (i := 0) (fuel := 15) (by simp; rfl) (by kernel_rfl) (by kernel_rfl) (by kernel_rfl) (Or.inl ⟨by rfl, fun w' hSw => ?_⟩) rfl ?_
        rotate_left
        · go_simp
          all_goals with_reducible rfl
        simp only [Act.put, List.setIfInBounds_toArray, List.set_cons_zero, List.set_cons_succ]
        refine ord_take (v := ?_) (i := 2) (fuel := 14) (by simp; rfl) (by kernel_rfl) (by kernel_rfl) (by kernel_rfl) (Or.inl ⟨by rfl, fun w' hSw => ?_⟩) rfl ?_
        rotate_left
        · go_simp
          all_goals with_reducible rfl
        simp only [Act.put, List.setIfInBounds_toArray, List.set_cons_zero, List.set_cons_succ]
        refine ord_take (v := ?_) (i := 3) (fuel := 13) (by simp; rfl) (by kernel_rfl) (by kernel_rfl) (by kernel_rfl) (Or.inl ⟨by rfl, fun w' hSw => ?_⟩) rfl ?_
        rotate_left
        · go_simp
          all_goals with_reducible rfl
        simp only [Act.put, List.setIfInBounds_toArray, List.set_cons_zero, List.set_cons_succ]
        refine ord_take (v := ?_) (i := 4) (fuel := 12) (by simp; rfl) (by kernel_rfl) (by kernel_rfl) (by kernel_rfl) (Or.inl ⟨by rfl, fun w' hSw => ?_⟩) rfl ?_
        rotate_left
        · go_simp
          all_goals with_reducible rfl
        simp only [Act.put, List.setIfInBounds_toArray, List.set_cons_zero, List.set_cons_succ]
        refine ord_take (v := ?_) (i := 5) (fuel := 11) (by simp; rfl) (by kernel_rfl) (by kernel_rfl) (by kernel_rfl) (Or.inl ⟨by rfl, fun w' hSw => ?_⟩) rfl ?_
        rotate_left
        · dsimp only at hSw
          subst hSw
          have cc : w6.drew.cell? ⟨g2, 3, none⟩ = _ := HT6.out.deadCell
          go_simp
          all_goals with_reducible rfl
        simp only [Act.put, List.setIfInBounds_toArray, List.set_cons_zero, List.set_cons_succ]
        refine ord_call (f := 23) (args := #[.pointer (some ⟨g, 0, none⟩)]) (w1 := w6.drew) (i := 1) (fuel := 10) (by simp; rfl) (by kernel_rfl) (by rfl) ?_ ?_
        · go_simp
          all_goals with_reducible rfl
        refine (deadS_c (show SlS w6.drew g d M s6 from HS6.out)).mono ?_
        rintro e w' ⟨rfl, rfl⟩
        refine ⟨_, rfl, rfl, ?_⟩
        simp only [Act.put, List.setIfInBounds_toArray, List.set_cons_zero, List.set_cons_succ]
        refine ord_take (v := ?_) (i := 6) (fuel := 9) (by simp; rfl) (by kernel_rfl) (by kernel_rfl) (by kernel_rfl) (Or.inl ⟨by rfl, fun w' hSw => ?_⟩) rfl ?_
        rotate_left
        · go_simp
          all_goals with_reducible rfl
        simp only [Act.put, List.setIfInBounds_toArray, List.set_cons_zero, List.set_cons_succ]
        refine ord_take (v := ?_) (i := 7) (fuel := 8) (by simp; rfl) (by kernel_rfl) (by kernel_rfl) (by kernel_rfl) (Or.inl ⟨by rfl, fun w' hSw => ?_⟩) rfl ?_
        rotate_left
        · go_simp
          all_goals with_reducible rfl
        simp only [Act.put, List.setIfInBounds_toArray, List.set_cons_zero, List.set_cons_succ]
        refine ord_take (v := ?_) (i := 8) (fuel := 7) (by simp; rfl) (by kernel_rfl) (by kernel_rfl) (by kernel_rfl) (Or.inl ⟨by rfl, fun w' hSw => ?_⟩) rfl ?_
        rotate_left
        · go_simp
          all_goals with_reducible rfl
        simp only [Act.put, List.setIfInBounds_toArray, List.set_cons_zero, List.set_cons_succ]
        refine ord_take (v := ?_) (i := 10) (fuel := 6) (by simp; rfl) (by kernel_rfl) (by kernel_rfl) (by kernel_rfl) (Or.inl ⟨by rfl, fun w' hSw => ?_⟩) rfl ?_
        rotate_left
        · go_simp
          all_goals with_reducible rfl
        simp only [Act.put, List.setIfInBounds_toArray, List.set_cons_zero, List.set_cons_succ]
        refine ord_take (v := ?_) (i := 11) (fuel := 5) (by simp; rfl) (by kernel_rfl) (by kernel_rfl) (by kernel_rfl) (Or.inl ⟨by rfl, fun w' hSw => ?_⟩) rfl ?_
        rotate_left
        · go_simp
          all_goals with_reducible rfl
        simp only [Act.put, List.setIfInBounds_toArray, List.set_cons_zero, List.set_cons_succ]
        refine ord_take (v := ?_) (i := 12) (fuel := 4) (by simp; rfl) (by kernel_rfl) (by kernel_rfl) (by kernel_rfl) (Or.inl ⟨by rfl, fun w' hSw => ?_⟩) rfl ?_
        rotate_left
        · go_simp
          all_goals with_reducible rfl
        simp only [Act.put, List.setIfInBounds_toArray, List.set_cons_zero, List.set_cons_succ]
        refine ord_take (v := ?_) (i := 13) (fuel := 3) (by simp; rfl) (by kernel_rfl) (by kernel_rfl) (by kernel_rfl) (Or.inl ⟨by rfl, fun w' hSw => ?_⟩) rfl ?_
        rotate_left
        · dsimp only at hSw
          subst hSw
          have cc : w6.drew.cell? ⟨g2, 4, none⟩ = _ := HT6.out.kCell
          go_simp
          all_goals with_reducible rfl
        simp only [Act.put, List.setIfInBounds_toArray, List.set_cons_zero, List.set_cons_succ]
        refine ord_call (f := 14) (args := #[.pointer (some ⟨g, 0, none⟩)]) (w1 := w6.drew) (i := 9) (fuel := 2) (by simp; rfl) (by kernel_rfl) (by rfl) ?_ ?_
        · go_simp
          all_goals with_reducible rfl
        refine (writesS_c (show SlS w6.drew g d M s6 from HS6.out)).mono ?_
        rintro e w' ⟨rfl, rfl⟩
        refine ⟨_, rfl, rfl, ?_⟩
        simp only [Act.put, List.setIfInBounds_toArray, List.set_cons_zero, List.set_cons_succ]
        refine ord_take (v := ?_) (i := 14) (fuel := 1) (by simp; rfl) (by kernel_rfl) (by kernel_rfl) (by kernel_rfl) (Or.inl ⟨by rfl, fun w' hSw => ?_⟩) rfl ?_
        rotate_left
        · go_simp
          all_goals with_reducible rfl
        simp only [Act.put, List.setIfInBounds_toArray, List.set_cons_zero, List.set_cons_succ]
        refine ord_take (v := ?_) (i := 15) (fuel := 0) (by simp; rfl) (by kernel_rfl) (by kernel_rfl) (by kernel_rfl) (Or.inl ⟨by rfl, fun w' hSw => ?_⟩) rfl ?_
        rotate_left
        · go_simp
          all_goals with_reducible rfl
        simp only [Act.put, List.setIfInBounds_toArray, List.set_cons_zero, List.set_cons_succ]
        refine ord_done (by kernel_rfl) ?_ _
        go_wp2
        go_roundw
        case rel => exact ⟨j + 1, s6, HJ1.out.1, by go_num, HS6.out, HT6.out, by rw [HJ1.out.2]; exact HO6.out, HB6.out.drew⟩
        case measure => simp [intOf]; omega
      · as_aux_lemma =>
        clear hv hv0
        obtain ⟨L, β, hRd⟩ : ∃ L β, rdS s M ((pa : Int) - 3) ((pm : Int) - 2) = (L, β) := ⟨_, _, rfl⟩
        have HRd := Lib.hid hRd
        have HO6 := Lib.hid (HOk.out.more (show (j : Int) ≤ (j : Int) + 1 by omega))
        clear hRd
        go_wp2_with fail
        (with_reducible refine (read_v _ _ L HRd.out HSw.out HAm.out).mono ?_)
        rintro e w5 ⟨A1, n1, c1, rfl, hr, hb⟩
        have HR5 := Lib.hid hr
        have HS5 := Lib.hid (HSw.out.below hb)
        have HT5 := Lib.hid (HTw.out.below hb)
        have HB5 := Lib.hid (bel_tr HBw.out hb)
        clear hr hb lx x0 x1 x2 x3
        go_wp2_with fail
        (with_reducible refine (refRead_v _ _ L HRd.out HT5.out HAm.out).mono ?_)
        rintro e w6 ⟨A2, n2, c2, rfl, hr, hb⟩
        have hc2 := str_run hr
        have hc1 := str_run (HR5.out.below hb)
        have HS6 := Lib.hid (HS5.out.below hb)
        have HT6 := Lib.hid (HT5.out.below hb)
        have HB6 := Lib.hid (bel_tr HB5.out hb)
        clear hr hb HS5 HT5 HB5 HR5
        obtain ⟨s6, hs6⟩ : ∃ s6, s = s6 := ⟨_, rfl⟩
        rw [hs6] at HS6 HT6 HO6
        clear hs6
        go_upto_region 30 with fail
        refine wp_region_ord (S := fun V => V = w6.drew) (by kernel_rfl) ?_
        refine ord_take (v := ?_) (i := 0) (fuel := 15) (by simp; rfl) (by kernel_rfl) (by kernel_rfl) (by kernel_rfl) (Or.inl ⟨by rfl, fun w' hSw => ?_⟩) rfl ?_
        rotate_left
        · go_simp
          all_goals with_reducible rfl
        simp only [Act.put, List.setIfInBounds_toArray, List.set_cons_zero, List.set_cons_succ]
        refine ord_take (v := ?_) (i := 2) (fuel := 14) (by simp; rfl) (by kernel_rfl) (by kernel_rfl) (by kernel_rfl) (Or.inl ⟨by rfl, fun w' hSw => ?_⟩) rfl ?_
        rotate_left
        · go_simp
          all_goals with_reducible rfl
        simp only [Act.put, List.setIfInBounds_toArray, List.set_cons_zero, List.set_cons_succ]
        refine ord_take (v := ?_) (i := 3) (fuel := 13) (by simp; rfl) (by kernel_rfl) (by kernel_rfl) (by kernel_rfl) (Or.inl ⟨by rfl, fun w' hSw => ?_⟩) rfl ?_
        rotate_left
        · go_simp
          all_goals with_reducible rfl
        simp only [Act.put, List.setIfInBounds_toArray, List.set_cons_zero, List.set_cons_succ]
        refine ord_take (v := ?_) (i := 4) (fuel := 12) (by simp; rfl) (by kernel_rfl) (by kernel_rfl) (by kernel_rfl) (Or.inl ⟨by rfl, fun w' hSw => ?_⟩) rfl ?_
        rotate_left
        · go_simp
          all_goals with_reducible rfl
        simp only [Act.put, List.setIfInBounds_toArray, List.set_cons_zero, List.set_cons_succ]
        refine ord_take (v := ?_) (i := 5) (fuel := 11) (by simp; rfl) (by kernel_rfl) (by kernel_rfl) (by kernel_rfl) (Or.inl ⟨by rfl, fun w' hSw => ?_⟩) rfl ?_
        rotate_left
        · dsimp only at hSw
          subst hSw
          have cc : w6.drew.cell? ⟨g2, 3, none⟩ = _ := HT6.out.deadCell
          go_simp
          all_goals with_reducible rfl
        simp only [Act.put, List.setIfInBounds_toArray, List.set_cons_zero, List.set_cons_succ]
        refine ord_call (f := 23) (args := #[.pointer (some ⟨g, 0, none⟩)]) (w1 := w6.drew) (i := 1) (fuel := 10) (by simp; rfl) (by kernel_rfl) (by rfl) ?_ ?_
        · go_simp
          all_goals with_reducible rfl
        refine (deadS_c (show SlS w6.drew g d M s6 from HS6.out)).mono ?_
        rintro e w' ⟨rfl, rfl⟩
        refine ⟨_, rfl, rfl, ?_⟩
        simp only [Act.put, List.setIfInBounds_toArray, List.set_cons_zero, List.set_cons_succ]
        refine ord_take (v := ?_) (i := 6) (fuel := 9) (by simp; rfl) (by kernel_rfl) (by kernel_rfl) (by kernel_rfl) (Or.inl ⟨by rfl, fun w' hSw => ?_⟩) rfl ?_
        rotate_left
        · go_simp
          all_goals with_reducible rfl
        simp only [Act.put, List.setIfInBounds_toArray, List.set_cons_zero, List.set_cons_succ]
        refine ord_take (v := ?_) (i := 7) (fuel := 8) (by simp; rfl) (by kernel_rfl) (by kernel_rfl) (by kernel_rfl) (Or.inl ⟨by rfl, fun w' hSw => ?_⟩) rfl ?_
        rotate_left
        · go_simp
          all_goals with_reducible rfl
        simp only [Act.put, List.setIfInBounds_toArray, List.set_cons_zero, List.set_cons_succ]
        refine ord_take (v := ?_) (i := 8) (fuel := 7) (by simp; rfl) (by kernel_rfl) (by kernel_rfl) (by kernel_rfl) (Or.inl ⟨by rfl, fun w' hSw => ?_⟩) rfl ?_
        rotate_left
        · go_simp
          all_goals with_reducible rfl
        simp only [Act.put, List.setIfInBounds_toArray, List.set_cons_zero, List.set_cons_succ]
        refine ord_take (v := ?_) (i := 10) (fuel := 6) (by simp; rfl) (by kernel_rfl) (by kernel_rfl) (by kernel_rfl) (Or.inl ⟨by rfl, fun w' hSw => ?_⟩) rfl ?_
        rotate_left
        · go_simp
          all_goals with_reducible rfl
        simp only [Act.put, List.setIfInBounds_toArray, List.set_cons_zero, List.set_cons_succ]
        refine ord_take (v := ?_) (i := 11) (fuel := 5) (by simp; rfl) (by kernel_rfl) (by kernel_rfl) (by kernel_rfl) (Or.inl ⟨by rfl, fun w' hSw => ?_⟩) rfl ?_
        rotate_left
        · go_simp
          all_goals with_reducible rfl
        simp only [Act.put, List.setIfInBounds_toArray, List.set_cons_zero, List.set_cons_succ]
        refine ord_take (v := ?_) (i := 12) (fuel := 4) (by simp; rfl) (by kernel_rfl) (by kernel_rfl) (by kernel_rfl) (Or.inl ⟨by rfl, fun w' hSw => ?_⟩) rfl ?_
        rotate_left
        · go_simp
          all_goals with_reducible rfl
        simp only [Act.put, List.setIfInBounds_toArray, List.set_cons_zero, List.set_cons_succ]
        refine ord_take (v := ?_) (i := 13) (fuel := 3) (by simp; rfl) (by kernel_rfl) (by kernel_rfl) (by kernel_rfl) (Or.inl ⟨by rfl, fun w' hSw => ?_⟩) rfl ?_
        rotate_left
        · dsimp only at hSw
          subst hSw
          have cc : w6.drew.cell? ⟨g2, 4, none⟩ = _ := HT6.out.kCell
          go_simp
          all_goals with_reducible rfl
        simp only [Act.put, List.setIfInBounds_toArray, List.set_cons_zero, List.set_cons_succ]
        refine ord_call (f := 14) (args := #[.pointer (some ⟨g, 0, none⟩)]) (w1 := w6.drew) (i := 9) (fuel := 2) (by simp; rfl) (by kernel_rfl) (by rfl) ?_ ?_
        · go_simp
          all_goals with_reducible rfl
        refine (writesS_c (show SlS w6.drew g d M s6 from HS6.out)).mono ?_
        rintro e w' ⟨rfl, rfl⟩
        refine ⟨_, rfl, rfl, ?_⟩
        simp only [Act.put, List.setIfInBounds_toArray, List.set_cons_zero, List.set_cons_succ]
        refine ord_take (v := ?_) (i := 14) (fuel := 1) (by simp; rfl) (by kernel_rfl) (by kernel_rfl) (by kernel_rfl) (Or.inl ⟨by rfl, fun w' hSw => ?_⟩) rfl ?_
        rotate_left
        · go_simp
          all_goals with_reducible rfl
        simp only [Act.put, List.setIfInBounds_toArray, List.set_cons_zero, List.set_cons_succ]
        refine ord_take (v := ?_) (i := 15) (fuel := 0) (by simp; rfl) (by kernel_rfl) (by kernel_rfl) (by kernel_rfl) (Or.inl ⟨by rfl, fun w' hSw => ?_⟩) rfl ?_
        rotate_left
        · go_simp
          all_goals with_reducible rfl
        simp only [Act.put, List.setIfInBounds_toArray, List.set_cons_zero, List.set_cons_succ]
        refine ord_done (by kernel_rfl) ?_ _
        go_wp2
        go_roundw
        case rel => exact ⟨j + 1, s6, HJ1.out.1, by go_num, HS6.out, HT6.out, by rw [HJ1.out.2]; exact HO6.out, HB6.out.drew⟩
        case measure => simp [intOf]; omega
      · as_aux_lemma =>
        clear hv hv0
        obtain ⟨s6, β, hWr⟩ : ∃ s6 β, wrS s M y lb = (s6, β) := ⟨_, _, rfl⟩
        have HWr := Lib.hid hWr
        have HO6 := Lib.hid (wrS_ok' hWr HOk.out)
        have HYm := Lib.hid HY.out.2
        clear hWr lx x0 x1 x2 x3
        go_upto_region 28 with fail
        refine wp_region_ord (S := fun V => Blk V gx 38 #[.int .i64 x, .int .i64 y, .int .i64 z, .slice Ab mb cb]) (by kernel_rfl) ?_
        refine ord_take (v := ?_) (i := 0) (fuel := 12) (by simp; rfl) (by kernel_rfl) (by kernel_rfl) (by kernel_rfl) (Or.inl ⟨by rfl, fun w' hSw => ?_⟩) HK.out ?_
        rotate_left
        · go_simp
          all_goals with_reducible rfl
        simp only [Act.put, List.setIfInBounds_toArray, List.set_cons_zero, List.set_cons_succ]
        refine ord_take (v := ?_) (i := 1) (fuel := 11) (by simp; rfl) (by kernel_rfl) (by kernel_rfl) (by kernel_rfl) (Or.inl ⟨by rfl, fun w' hSw => ?_⟩) HK.out ?_
        rotate_left
        · go_simp
          all_goals with_reducible rfl
        simp only [Act.put, List.setIfInBounds_toArray, List.set_cons_zero, List.set_cons_succ]
        refine ord_take (v := ?_) (i := 2) (fuel := 10) (by simp; rfl) (by kernel_rfl) (by kernel_rfl) (by kernel_rfl) (Or.inl ⟨by rfl, fun w' hSw => ?_⟩) HK.out ?_
        rotate_left
        · dsimp only at hSw
          obtain ⟨_, x0, x1, x2, x3⟩ := blk4 hSw
          go_simp
          all_goals with_reducible rfl
        simp only [Act.put, List.setIfInBounds_toArray, List.set_cons_zero, List.set_cons_succ]
        refine ord_take (v := ?_) (i := 3) (fuel := 9) (by simp; rfl) (by kernel_rfl) (by kernel_rfl) (by kernel_rfl) (Or.inl ⟨by rfl, fun w' hSw => ?_⟩) HK.out ?_
        rotate_left
        · go_simp
          all_goals with_reducible rfl
        simp only [Act.put, List.setIfInBounds_toArray, List.set_cons_zero, List.set_cons_succ]
        refine ord_take (v := ?_) (i := 4) (fuel := 8) (by simp; rfl) (by kernel_rfl) (by kernel_rfl) (by kernel_rfl) (Or.inl ⟨by rfl, fun w' hSw => ?_⟩) HK.out ?_
        rotate_left
        · dsimp only at hSw
          obtain ⟨_, x0, x1, x2, x3⟩ := blk4 hSw
          go_simp
          all_goals with_reducible rfl
        simp only [Act.put, List.setIfInBounds_toArray, List.set_cons_zero, List.set_cons_succ]
        refine ord_take (v := ?_) (i := 6) (fuel := 7) (by simp; rfl) (by kernel_rfl) (by kernel_rfl) (by kernel_rfl) (Or.inl ⟨by rfl, fun w' hSw => ?_⟩) HK.out ?_
        rotate_left
        · go_simp
          all_goals with_reducible rfl
        simp only [Act.put, List.setIfInBounds_toArray, List.set_cons_zero, List.set_cons_succ]
        refine ord_take (v := ?_) (i := 7) (fuel := 6) (by simp; rfl) (by kernel_rfl) (by kernel_rfl) (by kernel_rfl) (Or.inl ⟨by rfl, fun w' hSw => ?_⟩) HK.out ?_
        rotate_left
        · go_simp
          all_goals with_reducible rfl
        simp only [Act.put, List.setIfInBounds_toArray, List.set_cons_zero, List.set_cons_succ]
        refine ord_take (v := ?_) (i := 8) (fuel := 5) (by simp; rfl) (by kernel_rfl) (by kernel_rfl) (by kernel_rfl) (Or.inl ⟨by rfl, fun w' hSw => ?_⟩) HK.out ?_
        rotate_left
        · dsimp only at hSw
          obtain ⟨_, x0, x1, x2, x3⟩ := blk4 hSw
          go_simp
          all_goals with_reducible rfl
        simp only [Act.put, List.setIfInBounds_toArray, List.set_cons_zero, List.set_cons_succ]
        refine ord_take (v := ?_) (i := 9) (fuel := 4) (by simp; rfl) (by kernel_rfl) (by kernel_rfl) (by kernel_rfl) (Or.inl ⟨by rfl, fun w' hSw => ?_⟩) HK.out ?_
        rotate_left
        · go_simp
          all_goals with_reducible rfl
        simp only [Act.put, List.setIfInBounds_toArray, List.set_cons_zero, List.set_cons_succ]
        refine ord_take (v := ?_) (i := 10) (fuel := 3) (by simp; rfl) (by kernel_rfl) (by kernel_rfl) (by kernel_rfl) (Or.inl ⟨by rfl, fun w' hSw => ?_⟩) HK.out ?_
        rotate_left
        · dsimp only at hSw
          obtain ⟨_, x0, x1, x2, x3⟩ := blk4 hSw
          go_simp
          all_goals with_reducible rfl
        simp only [Act.put, List.setIfInBounds_toArray, List.set_cons_zero, List.set_cons_succ]
        refine ord_call (f := 10) (args := #[.pointer (some ⟨g, 0, none⟩), .int .i64 y, .slice Ab mb cb]) (w1 := W.drew) (i := 5) (fuel := 2) (by simp; rfl) (by kernel_rfl) (by rfl) ?_ ?_
        · go_simp
          all_goals with_reducible rfl
        refine (write_v y Ab mb cb lb (j : Int) HWr.out (show SlS W.drew g d M s from HSw.out) (HBsw.out.more HBw.out.size) HOk.out HJK.out HYm.out).mono ?_
        rintro e w5 ⟨rfl, hs, ht⟩
        have HS5 := Lib.hid hs
        have HT5 := Lib.hid ((show RsS W.drew g2 d2 M s from HTw.out).but ht (not2 HNT.out.1) (not2 HNT.out.2.1))
        have HB5 := Lib.hid (bel_but (HBw.out.drew) ht HBw.out.size HG.out HD.out)
        have HBs5 := Lib.hid (bs_to (show Bs W.drew w.heap.size Ab mb cb lb from HBsw.out) (ht.below HBw.out.size (by simp; exact ⟨HG.out, HD.out⟩)) HB5.out.size)
        have HK5 := Lib.hid ((show Blk W.drew gx 38 #[.int .i64 x, .int .i64 y, .int .i64 z, .slice Ab mb cb] from HK.out).but ht (not2 HNg.out.1))
        clear hs ht
        refine ⟨_, rfl, HK5.out, ?_⟩
        simp only [Act.put, List.setIfInBounds_toArray, List.set_cons_zero, List.set_cons_succ]
        refine ord_call (f := 21) (args := #[.pointer (some ⟨g2, 0, none⟩), .int .i64 y, .slice Ab mb cb]) (w1 := w5) (i := 11) (fuel := 1) (by simp; rfl) (by kernel_rfl) (by rfl) ?_ ?_
        · go_simp
          all_goals with_reducible rfl
        refine (refWrite_v y Ab mb cb lb (j : Int) HWr.out HT5.out HBs5.out HOk.out HJK.out HYm.out).mono ?_
        rintro e w6 ⟨rfl, hs, ht⟩
        have HT6 := Lib.hid hs
        have HS6 := Lib.hid (HS5.out.but ht (not2 HNT.out.2.2.1) (not2 HNT.out.2.2.2))
        have HB6 := Lib.hid (bel_but HB5.out ht HB5.out.size HG2.out HD2.out)
        have HK6 := Lib.hid (HK5.out.but ht (not2 HNg.out.2))
        clear hs ht HS5 HT5 HBs5
        refine ⟨_, rfl, HK6.out, ?_⟩
        simp only [Act.put, List.setIfInBounds_toArray, List.set_cons_zero, List.set_cons_succ]
        refine ord_take (v := ?_) (i := 12) (fuel := 0) (by simp; rfl) (by kernel_rfl) (by kernel_rfl) (by kernel_rfl) (Or.inl ⟨by rfl, fun w' hSw => ?_⟩) HK6.out ?_
        rotate_left
        · go_simp
          all_goals with_reducible rfl
        simp only [Act.put, List.setIfInBounds_toArray, List.set_cons_zero, List.set_cons_succ]
        refine ord_done (by kernel_rfl) ?_ _
        clear HK5 HK6 HB5
        go_upto_region 30 with fail
        refine wp_region_ord (S := fun V => V = w6.drew) (by kernel_rfl) ?_
        refine ord_take (v := ?_) (i := 0) (fuel := 15) (by simp; rfl) (by kernel_rfl) (by kernel_rfl) (by kernel_rfl) (Or.inl ⟨by rfl, fun w' hSw => ?_⟩) rfl ?_
        rotate_left
        · go_simp
          all_goals with_reducible rfl
        simp only [Act.put, List.setIfInBounds_toArray, List.set_cons_zero, List.set_cons_succ]
        refine ord_take (v := ?_) (i := 2) (fuel := 14) (by simp; rfl) (by kernel_rfl) (by kernel_rfl) (by kernel_rfl) (Or.inl ⟨by rfl, fun w' hSw => ?_⟩) rfl ?_
        rotate_left
        · go_simp
          all_goals with_reducible rfl
        simp only [Act.put, List.setIfInBounds_toArray, List.set_cons_zero, List.set_cons_succ]
        refine ord_take (v := ?_) (i := 3) (fuel := 13) (by simp; rfl) (by kernel_rfl) (by kernel_rfl) (by kernel_rfl) (Or.inl ⟨by rfl, fun w' hSw => ?_⟩) rfl ?_
        rotate_left
        · go_simp
          all_goals with_reducible rfl
        simp only [Act.put, List.setIfInBounds_toArray, List.set_cons_zero, List.set_cons_succ]
        refine ord_take (v := ?_) (i := 4) (fuel := 12) (by simp; rfl) (by kernel_rfl) (by kernel_rfl) (by kernel_rfl) (Or.inl ⟨by rfl, fun w' hSw => ?_⟩) rfl ?_
        rotate_left
        · go_simp
          all_goals with_reducible rfl
        simp only [Act.put, List.setIfInBounds_toArray, List.set_cons_zero, List.set_cons_succ]
        refine ord_take (v := ?_) (i := 5) (fuel := 11) (by simp; rfl) (by kernel_rfl) (by kernel_rfl) (by kernel_rfl) (Or.inl ⟨by rfl, fun w' hSw => ?_⟩) rfl ?_
        rotate_left
        · dsimp only at hSw
          subst hSw
          have cc : w6.drew.cell? ⟨g2, 3, none⟩ = _ := HT6.out.deadCell
          go_simp
          all_goals with_reducible rfl
        simp only [Act.put, List.setIfInBounds_toArray, List.set_cons_zero, List.set_cons_succ]
        refine ord_call (f := 23) (args := #[.pointer (some ⟨g, 0, none⟩)]) (w1 := w6.drew) (i := 1) (fuel := 10) (by simp; rfl) (by kernel_rfl) (by rfl) ?_ ?_
        · go_simp
          all_goals with_reducible rfl
        refine (deadS_c (show SlS w6.drew g d M s6 from HS6.out)).mono ?_
        rintro e w' ⟨rfl, rfl⟩
        refine ⟨_, rfl, rfl, ?_⟩
        simp only [Act.put, List.setIfInBounds_toArray, List.set_cons_zero, List.set_cons_succ]
        refine ord_take (v := ?_) (i := 6) (fuel := 9) (by simp; rfl) (by kernel_rfl) (by kernel_rfl) (by kernel_rfl) (Or.inl ⟨by rfl, fun w' hSw => ?_⟩) rfl ?_
        rotate_left
        · go_simp
          all_goals with_reducible rfl
        simp only [Act.put, List.setIfInBounds_toArray, List.set_cons_zero, List.set_cons_succ]
        refine ord_take (v := ?_) (i := 7) (fuel := 8) (by simp; rfl) (by kernel_rfl) (by kernel_rfl) (by kernel_rfl) (Or.inl ⟨by rfl, fun w' hSw => ?_⟩) rfl ?_
        rotate_left
        · go_simp
          all_goals with_reducible rfl
        simp only [Act.put, List.setIfInBounds_toArray, List.set_cons_zero, List.set_cons_succ]
        refine ord_take (v := ?_) (i := 8) (fuel := 7) (by simp; rfl) (by kernel_rfl) (by kernel_rfl) (by kernel_rfl) (Or.inl ⟨by rfl, fun w' hSw => ?_⟩) rfl ?_
        rotate_left
        · go_simp
          all_goals with_reducible rfl
        simp only [Act.put, List.setIfInBounds_toArray, List.set_cons_zero, List.set_cons_succ]
        refine ord_take (v := ?_) (i := 10) (fuel := 6) (by simp; rfl) (by kernel_rfl) (by kernel_rfl) (by kernel_rfl) (Or.inl ⟨by rfl, fun w' hSw => ?_⟩) rfl ?_
        rotate_left
        · go_simp
          all_goals with_reducible rfl
        simp only [Act.put, List.setIfInBounds_toArray, List.set_cons_zero, List.set_cons_succ]
        refine ord_take (v := ?_) (i := 11) (fuel := 5) (by simp; rfl) (by kernel_rfl) (by kernel_rfl) (by kernel_rfl) (Or.inl ⟨by rfl, fun w' hSw => ?_⟩) rfl ?_
        rotate_left
        · go_simp
          all_goals with_reducible rfl
        simp only [Act.put, List.setIfInBounds_toArray, List.set_cons_zero, List.set_cons_succ]
        refine ord_take (v := ?_) (i := 12) (fuel := 4) (by simp; rfl) (by kernel_rfl) (by kernel_rfl) (by kernel_rfl) (Or.inl ⟨by rfl, fun w' hSw => ?_⟩) rfl ?_
        rotate_left
        · go_simp
          all_goals with_reducible rfl
        simp only [Act.put, List.setIfInBounds_toArray, List.set_cons_zero, List.set_cons_succ]
        refine ord_take (v := ?_) (i := 13) (fuel := 3) (by simp; rfl) (by kernel_rfl) (by kernel_rfl) (by kernel_rfl) (Or.inl ⟨by rfl, fun w' hSw => ?_⟩) rfl ?_
        rotate_left
        · dsimp only at hSw
          subst hSw
          have cc : w6.drew.cell? ⟨g2, 4, none⟩ = _ := HT6.out.kCell
          go_simp
          all_goals with_reducible rfl
        simp only [Act.put, List.setIfInBounds_toArray, List.set_cons_zero, List.set_cons_succ]
        refine ord_call (f := 14) (args := #[.pointer (some ⟨g, 0, none⟩)]) (w1 := w6.drew) (i := 9) (fuel := 2) (by simp; rfl) (by kernel_rfl) (by rfl) ?_ ?_
        · go_simp
          all_goals with_reducible rfl
        refine (writesS_c (show SlS w6.drew g d M s6 from HS6.out)).mono ?_
        rintro e w' ⟨rfl, rfl⟩
        refine ⟨_, rfl, rfl, ?_⟩
        simp only [Act.put, List.setIfInBounds_toArray, List.set_cons_zero, List.set_cons_succ]
        refine ord_take (v := ?_) (i := 14) (fuel := 1) (by simp; rfl) (by kernel_rfl) (by kernel_rfl) (by kernel_rfl) (Or.inl ⟨by rfl, fun w' hSw => ?_⟩) rfl ?_
        rotate_left
        · go_simp
          all_goals with_reducible rfl
        simp only [Act.put, List.setIfInBounds_toArray, List.set_cons_zero, List.set_cons_succ]
        refine ord_take (v := ?_) (i := 15) (fuel := 0) (by simp; rfl) (by kernel_rfl) (by kernel_rfl) (by kernel_rfl) (Or.inl ⟨by rfl, fun w' hSw => ?_⟩) rfl ?_
        rotate_left
        · go_simp
          all_goals with_reducible rfl
        simp only [Act.put, List.setIfInBounds_toArray, List.set_cons_zero, List.set_cons_succ]
        refine ord_done (by kernel_rfl) ?_ _
        go_wp2
        go_roundw
        case rel => exact ⟨j + 1, s6, HJ1.out.1, by go_num, HS6.out, HT6.out, by rw [HJ1.out.2]; exact HO6.out, HB6.out.drew⟩
        case measure => simp [intOf]; omega
      · as_aux_lemma =>
        have m0 : (vi == 0) = false := by simpa using n0
        have m1 : (vi == 1) = false := by simpa using n1
        have m2 : (vi == 2) = false := by simpa using n2
        have m3 : (vi == 3) = false := by simpa using n3
        have m4 : (vi == 4) = false := by simpa using n4
        clear hv hv0 n0 n1 n2 n3 n4
        obtain ⟨kk, hkk⟩ : ∃ kk : Nat, min mb 12 = kk := ⟨_, rfl⟩
        have HKK := Lib.hid hkk
        have hk12 : kk ≤ 140737488355328 := by omega
        clear hkk
        obtain ⟨s6, β, hWr⟩ : ∃ s6 β, wrS s M ((pa : Int) - 3) (lb.take 12) = (s6, β) := ⟨_, _, rfl⟩
        have HWr := Lib.hid hWr
        have HO6 := Lib.hid (wrS_ok' hWr HOk.out)
        clear hWr
        go_wp2_with fail
        (with_reducible refine (few_k Ab mb cb lb 12 12 kk _ (HBsw.out.more HBw.out.size) rfl HKK.out hk12).mono ?_)
        rintro e w4 ⟨gf, cf, rfl, hO, hb⟩
        have HF4 := Lib.hid hO
        have HNf := Lib.hid (show gf ≠ g ∧ gf ≠ d by have := hO.ge; have := HSw.out.lt; omega)
        have HS4 := Lib.hid (HSw.out.below hb)
        have HT4 := Lib.hid (HTw.out.below hb)
        have HB4 := Lib.hid (bel_tr HBw.out hb)
        clear hO hb lx x0 x1 x2 x3
        go_wp2_with fail
        (with_reducible refine (write_v _ _ kk cf (lb.take 12) (j : Int) HWr.out HS4.out HF4.out.bs HOk.out HJK.out HAm.out).mono ?_)
        rintro e w5 ⟨rfl, hs, ht⟩
        have HS5 := Lib.hid hs
        have HT5 := Lib.hid (HT4.out.but ht (not2 HNT.out.1) (not2 HNT.out.2.1))
        have HF5 := Lib.hid (HF4.out.but ht (not2 HNf.out))
        have HB5 := Lib.hid (bel_but HB4.out ht HB4.out.size HG.out HD.out)
        clear hs ht HS4 HT4 HF4 HB4
        go_wp2_with fail
        (with_reducible refine (refWrite_v _ _ kk cf (lb.take 12) (j : Int) HWr.out HT5.out HF5.out.bs HOk.out HJK.out HAm.out).mono ?_)
        rintro e w6 ⟨rfl, hs, ht⟩
        have HT6 := Lib.hid hs
        have HS6 := Lib.hid (HS5.out.but ht (not2 HNT.out.2.2.1) (not2 HNT.out.2.2.2))
        have HB6 := Lib.hid (bel_but HB5.out ht HB5.out.size HG2.out HD2.out)
        clear hs ht HS5 HT5 HF5 HB5
        go_upto_region 30 with fail
        refine wp_region_ord (S := fun V => V = w6.drew) (by kernel_rfl) ?_
        refine ord_take (v := ?_) (i := 0) (fuel := 15) (by simp; rfl) (by kernel_rfl) (by kernel_rfl) (by kernel_rfl) (Or.inl ⟨by rfl, fun w' hSw => ?_⟩) rfl ?_
        rotate_left
        · go_simp
          all_goals with_reducible rfl
        simp only [Act.put, List.setIfInBounds_toArray, List.set_cons_zero, List.set_cons_succ]
        refine ord_take (v := ?_) (i := 2) (fuel := 14) (by simp; rfl) (by kernel_rfl) (by kernel_rfl) (by kernel_rfl) (Or.inl ⟨by rfl, fun w' hSw => ?_⟩) rfl ?_
        rotate_left
        · go_simp
          all_goals with_reducible rfl
        simp only [Act.put, List.setIfInBounds_toArray, List.set_cons_zero, List.set_cons_succ]
        refine ord_take (v := ?_) (i := 3) (fuel := 13) (by simp; rfl) (by kernel_rfl) (by kernel_rfl) (by kernel_rfl) (Or.inl ⟨by rfl, fun w' hSw => ?_⟩) rfl ?_
        rotate_left
        · go_simp
          all_goals with_reducible rfl
        simp only [Act.put, List.setIfInBounds_toArray, List.set_cons_zero, List.set_cons_succ]
        refine ord_take (v := ?_) (i := 4) (fuel := 12) (by simp; rfl) (by kernel_rfl) (by kernel_rfl) (by kernel_rfl) (Or.inl ⟨by rfl, fun w' hSw => ?_⟩) rfl ?_
        rotate_left
        · go_simp
          all_goals with_reducible rfl
        simp only [Act.put, List.setIfInBounds_toArray, List.set_cons_zero, List.set_cons_succ]
        refine ord_take (v := ?_) (i := 5) (fuel := 11) (by simp; rfl) (by kernel_rfl) (by kernel_rfl) (by kernel_rfl) (Or.inl ⟨by rfl, fun w' hSw => ?_⟩) rfl ?_
        rotate_left
        · dsimp only at hSw
          subst hSw
          have cc : w6.drew.cell? ⟨g2, 3, none⟩ = _ := HT6.out.deadCell
          go_simp
          all_goals with_reducible rfl
        simp only [Act.put, List.setIfInBounds_toArray, List.set_cons_zero, List.set_cons_succ]
        refine ord_call (f := 23) (args := #[.pointer (some ⟨g, 0, none⟩)]) (w1 := w6.drew) (i := 1) (fuel := 10) (by simp; rfl) (by kernel_rfl) (by rfl) ?_ ?_
        · go_simp
          all_goals with_reducible rfl
        refine (deadS_c (show SlS w6.drew g d M s6 from HS6.out)).mono ?_
        rintro e w' ⟨rfl, rfl⟩
        refine ⟨_, rfl, rfl, ?_⟩
        simp only [Act.put, List.setIfInBounds_toArray, List.set_cons_zero, List.set_cons_succ]
        refine ord_take (v := ?_) (i := 6) (fuel := 9) (by simp; rfl) (by kernel_rfl) (by kernel_rfl) (by kernel_rfl) (Or.inl ⟨by rfl, fun w' hSw => ?_⟩) rfl ?_
        rotate_left
        · go_simp
          all_goals with_reducible rfl
        simp only [Act.put, List.setIfInBounds_toArray, List.set_cons_zero, List.set_cons_succ]
        refine ord_take (v := ?_) (i := 7) (fuel := 8) (by simp; rfl) (by kernel_rfl) (by kernel_rfl) (by kernel_rfl) (Or.inl ⟨by rfl, fun w' hSw => ?_⟩) rfl ?_
        rotate_left
        · go_simp
          all_goals with_reducible rfl
        simp only [Act.put, List.setIfInBounds_toArray, List.set_cons_zero, List.set_cons_succ]
        refine ord_take (v := ?_) (i := 8) (fuel := 7) (by simp; rfl) (by kernel_rfl) (by kernel_rfl) (by kernel_rfl) (Or.inl ⟨by rfl, fun w' hSw => ?_⟩) rfl ?_
        rotate_left
        · go_simp
          all_goals with_reducible rfl
        simp only [Act.put, List.setIfInBounds_toArray, List.set_cons_zero, List.set_cons_succ]
        refine ord_take (v := ?_) (i := 10) (fuel := 6) (by simp; rfl) (by kernel_rfl) (by kernel_rfl) (by kernel_rfl) (Or.inl ⟨by rfl, fun w' hSw => ?_⟩) rfl ?_
        rotate_left
        · go_simp
          all_goals with_reducible rfl
        simp only [Act.put, List.setIfInBounds_toArray, List.set_cons_zero, List.set_cons_succ]
        refine ord_take (v := ?_) (i := 11) (fuel := 5) (by simp; rfl) (by kernel_rfl) (by kernel_rfl) (by kernel_rfl) (Or.inl ⟨by rfl, fun w' hSw => ?_⟩) rfl ?_
        rotate_left
        · go_simp
          all_goals with_reducible rfl
        simp only [Act.put, List.setIfInBounds_toArray, List.set_cons_zero, List.set_cons_succ]
        refine ord_take (v := ?_) (i := 12) (fuel := 4) (by simp; rfl) (by kernel_rfl) (by kernel_rfl) (by kernel_rfl) (Or.inl ⟨by rfl, fun w' hSw => ?_⟩) rfl ?_
        rotate_left
        · go_simp
          all_goals with_reducible rfl
        simp only [Act.put, List.setIfInBounds_toArray, List.set_cons_zero, List.set_cons_succ]
        refine ord_take (v := ?_) (i := 13) (fuel := 3) (by simp; rfl) (by kernel_rfl) (by kernel_rfl) (by kernel_rfl) (Or.inl ⟨by rfl, fun w' hSw => ?_⟩) rfl ?_
        rotate_left
        · dsimp only at hSw
          subst hSw
          have cc : w6.drew.cell? ⟨g2, 4, none⟩ = _ := HT6.out.kCell
          go_simp
          all_goals with_reducible rfl
        simp only [Act.put, List.setIfInBounds_toArray, List.set_cons_zero, List.set_cons_succ]
        refine ord_call (f := 14) (args := #[.pointer (some ⟨g, 0, none⟩)]) (w1 := w6.drew) (i := 9) (fuel := 2) (by simp; rfl) (by kernel_rfl) (by rfl) ?_ ?_
        · go_simp
          all_goals with_reducible rfl
        refine (writesS_c (show SlS w6.drew g d M s6 from HS6.out)).mono ?_
        rintro e w' ⟨rfl, rfl⟩
        refine ⟨_, rfl, rfl, ?_⟩
        simp only [Act.put, List.setIfInBounds_toArray, List.set_cons_zero, List.set_cons_succ]
        refine ord_take (v := ?_) (i := 14) (fuel := 1) (by simp; rfl) (by kernel_rfl) (by kernel_rfl) (by kernel_rfl) (Or.inl ⟨by rfl, fun w' hSw => ?_⟩) rfl ?_
        rotate_left
        · go_simp
          all_goals with_reducible rfl
        simp only [Act.put, List.setIfInBounds_toArray, List.set_cons_zero, List.set_cons_succ]
        refine ord_take (v := ?_) (i := 15) (fuel := 0) (by simp; rfl) (by kernel_rfl) (by kernel_rfl) (by kernel_rfl) (Or.inl ⟨by rfl, fun w' hSw => ?_⟩) rfl ?_
        rotate_left
        · go_simp
          all_goals with_reducible rfl
        simp only [Act.put, List.setIfInBounds_toArray, List.set_cons_zero, List.set_cons_succ]
        refine ord_done (by kernel_rfl) ?_ _
        go_wp2
        go_roundw
        case rel => exact ⟨j + 1, s6, HJ1.out.1, by go_num, HS6.out, HT6.out, by rw [HJ1.out.2]; exact HO6.out, HB6.out.drew⟩
        case measure => simp [intOf]; omega
    · as_aux_lemma =>
      have hjl' : ¬ (j : Int) < (len : Int) := by omega
      go_wp2_with fail
      (with_reducible refine (revive_all HS.out).mono ?_)
      rintro e w5 ⟨rfl, hs, ht⟩
      have HS5 := Lib.hid hs
      have HT5 := Lib.hid (HT.out.but ht (not1 HNT.out.1.1) (not1 HNT.out.2.1.1))
      have HB5 := Lib.hid (bel_but1 HB.out ht HB.out.size HG.out)
      clear hs ht
      go_wp2_with fail
      (with_reducible refine (sizeS_c HS5.out).mono ?_)
      rintro e w' ⟨rfl, rfl⟩
      go_wp2_with fail
      (with_reducible refine (read_v 0 (M : Int) s.l (β := true) (by
        have h1 := HOk.out.len
        unfold rdS
        rw [if_pos (by simp [okB, revS])]
        simp only [revS, Int.toNat_natCast]
        rw [show (0 : Int).toNat = 0 from rfl, List.drop_zero, List.take_of_length_le (by omega)]) HS5.out (by decide)).mono ?_)
      rintro e w6 ⟨A1, n1, c1, rfl, hr, hb⟩
      have HR6 := Lib.hid hr
      have HT6 := Lib.hid (HT5.out.below hb)
      have HB6 := Lib.hid (bel_tr HB5.out hb)
      have HSL := Lib.hid HOk.out.len
      clear hr hb HS5 HT5 HB5 HS HT HB
      have HBd := Lib.hid (show Below w6.heap.size w6 w6.drew from (Below.refl _ _).drew)
      go_upto_region 35 with fail
      refine wp_region_ord (S := fun V => Below w6.heap.size w6 V) (by kernel_rfl) ?_
      refine ord_take (v := ?_) (i := 0) (fuel := 11) (by simp; rfl) (by kernel_rfl) (by kernel_rfl) (by kernel_rfl) (Or.inl ⟨by rfl, fun w' hSw => ?_⟩) HBd.out ?_
      rotate_left
      · go_simp
        all_goals with_reducible rfl
      simp only [Act.put, List.setIfInBounds_toArray, List.set_cons_zero, List.set_cons_succ]
      refine ord_take (v := ?_) (i := 1) (fuel := 10) (by simp; rfl) (by kernel_rfl) (by kernel_rfl) (by kernel_rfl) (Or.inl ⟨by rfl, fun w' hSw => ?_⟩) HBd.out ?_
      rotate_left
      · go_simp
        all_goals with_reducible rfl
      simp only [Act.put, List.setIfInBounds_toArray, List.set_cons_zero, List.set_cons_succ]
      refine ord_take (v := ?_) (i := 2) (fuel := 9) (by simp; rfl) (by kernel_rfl) (by kernel_rfl) (by kernel_rfl) (Or.inl ⟨by rfl, fun w' hSw => ?_⟩) HBd.out ?_
      rotate_left
      · go_simp
        all_goals with_reducible rfl
      simp only [Act.put, List.setIfInBounds_toArray, List.set_cons_zero, List.set_cons_succ]
      refine ord_take (v := ?_) (i := 3) (fuel := 8) (by simp; rfl) (by kernel_rfl) (by kernel_rfl) (by kernel_rfl) (Or.inl ⟨by rfl, fun w' hSw => ?_⟩) HBd.out ?_
      rotate_left
      · dsimp only at hSw
        have cc := str_run (HR6.out.below hSw)
        go_simp
        all_goals with_reducible rfl
      simp only [Act.put, List.setIfInBounds_toArray, List.set_cons_zero, List.set_cons_succ]
      refine ord_take (v := ?_) (i := 4) (fuel := 7) (by simp; rfl) (by kernel_rfl) (by kernel_rfl) (by kernel_rfl) (Or.inl ⟨by rfl, fun w' hSw => ?_⟩) HBd.out ?_
      rotate_left
      · go_simp
        all_goals with_reducible rfl
      simp only [Act.put, List.setIfInBounds_toArray, List.set_cons_zero, List.set_cons_succ]
      refine ord_take (v := ?_) (i := 5) (fuel := 6) (by simp; rfl) (by kernel_rfl) (by kernel_rfl) (by kernel_rfl) (Or.inl ⟨by rfl, fun w' hSw => ?_⟩) HBd.out ?_
      rotate_left
      · go_simp
        all_goals with_reducible rfl
      simp only [Act.put, List.setIfInBounds_toArray, List.set_cons_zero, List.set_cons_succ]
      refine ord_take (v := ?_) (i := 6) (fuel := 5) (by simp; rfl) (by kernel_rfl) (by kernel_rfl) (by kernel_rfl) (Or.inl ⟨by rfl, fun w' hSw => ?_⟩) HBd.out ?_
      rotate_left
      · go_simp
        all_goals with_reducible rfl
      simp only [Act.put, List.setIfInBounds_toArray, List.set_cons_zero, List.set_cons_succ]
      refine ord_take (v := ?_) (i := 7) (fuel := 4) (by simp; rfl) (by kernel_rfl) (by kernel_rfl) (by kernel_rfl) (Or.inl ⟨by rfl, fun w' hSw => ?_⟩) HBd.out ?_
      rotate_left
      · dsimp only at hSw
        have cc := (HT6.out.below hSw).bCell
        go_simp
        all_goals with_reducible rfl
      simp only [Act.put, List.setIfInBounds_toArray, List.set_cons_zero, List.set_cons_succ]
      refine ord_take (v := ?_) (i := 8) (fuel := 3) (by simp; rfl) (by kernel_rfl) (by kernel_rfl) (by kernel_rfl) (Or.inl ⟨by rfl, fun w' hSw => ?_⟩) HBd.out ?_
      rotate_left
      · dsimp only at hSw
        have cc := str_run ((HT6.out.below hSw).2.1.bs HSL.out)
        go_simp
        all_goals with_reducible rfl
      simp only [Act.put, List.setIfInBounds_toArray, List.set_cons_zero, List.set_cons_succ]
      refine ord_take (v := ?_) (i := 9) (fuel := 2) (by simp; rfl) (by kernel_rfl) (by kernel_rfl) (by kernel_rfl) (Or.inl ⟨by rfl, fun w' hSw => ?_⟩) HBd.out ?_
      rotate_left
      · go_simp
        all_goals with_reducible rfl
      simp only [Act.put, List.setIfInBounds_toArray, List.set_cons_zero, List.set_cons_succ]
      refine ord_take (v := ?_) (i := 10) (fuel := 1) (by simp; rfl) (by kernel_rfl) (by kernel_rfl) (by kernel_rfl) (Or.inl ⟨by rfl, fun w' hSw => ?_⟩) HBd.out ?_
      rotate_left
      · go_simp
        all_goals with_reducible rfl
      simp only [Act.put, List.setIfInBounds_toArray, List.set_cons_zero, List.set_cons_succ]
      refine ord_take (v := ?_) (i := 11) (fuel := 0) (by simp; rfl) (by kernel_rfl) (by kernel_rfl) (by kernel_rfl) (Or.inl ⟨by rfl, fun w' hSw => ?_⟩) HBd.out ?_
      rotate_left
      · go_simp
        all_goals with_reducible rfl
      simp only [Act.put, List.setIfInBounds_toArray, List.set_cons_zero, List.set_cons_succ]
      refine ord_done (by kernel_rfl) ?_ _
      go_wp2
      go_ret
      exact ⟨rfl, bel_tr HB6.out HBd.out⟩
end Go.Proofs.Ytlaknhbgckppkaa


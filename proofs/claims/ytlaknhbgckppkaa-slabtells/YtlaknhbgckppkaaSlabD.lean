/- Package slab: the calls as the statements meet them; the chapter's example; SlabKnown. -/
import Derived.Test.YtlaknhbgckppkaaSlabC
namespace Go.Proofs.Ytlaknhbgckppkaa
open Go.RowKit
section
variable {w w1 w2 w' : World} {g d n : Nat} {l : List UInt8} {k left torn : Int} {dead cut : Bool}
theorem Sl.lt (h : Sl w g d n l k dead cut left torn) : g < w.heap.size ∧ d < w.heap.size := ⟨h.1.lt, Blk.lt h.2.1⟩
theorem Sl.alloc (h : Sl w g d n l k dead cut left torn) (o : Obj) : Sl (w.alloc o) g d n l k dead cut left torn := h.below ((Below.refl _ _).alloc (Nat.le_refl _) o)
theorem Row.alloc (h : Row w g l) (o : Obj) : Row (w.alloc o) g l := Blk.alloc h o
theorem Row.below (h : Row w g l) (hb : Below w.heap.size w w') : Row w' g l := Blk.below h hb (Blk.lt h)
theorem Row.but {ex : List Nat} (h : Row w g l) (hb : But ex w w') (hx : g ∉ ex) : Row w' g l := Blk.but h hb hx
theorem row_lit (w : World) {cs : Array Value} (b : List UInt8) (h : cs = (Lib.byteCells b).toArray) : Row (w.alloc (.cells cs 5)) w.heap.size b := by
  subst h
  exact Blk.new _ _ _
theorem bs_lit (w : World) {cs : Array Value} (b : List UInt8) (h : cs = (Lib.byteCells b).toArray) {m : Nat} (hm : b.length = m) : Bs (w.alloc (.cells cs 5)) (w.alloc (.cells cs 5)).heap.size (some ⟨w.heap.size, 0, none⟩) m m b := (row_lit w b h).bs hm
/-- Behind a call that wrote to the slab's own two blocks alone. -/
theorem bel_but {B : Nat} {w1 w2 : World} (hb : Below B w w1) (ht : But [g, d] w1 w2) (hB : B ≤ w1.heap.size) (hg : B ≤ g) (hd : B ≤ d) : Below B w w2 := hb.trans (ht.below hB (by simp; omega))
theorem bel_but1 {B : Nat} {w1 w2 : World} (hb : Below B w w1) (ht : But [g] w1 w2) (hB : B ≤ w1.heap.size) (hg : B ≤ g) : Below B w w2 := hb.trans (ht.below hB (by simp; omega))
theorem bel_al {w w1 : World} (hb : Below w.heap.size w w1) (o : Obj) : Below w.heap.size w (w1.alloc o) := hb.alloc hb.size o
theorem bel_size {B : Nat} (hb : Below B w w1) : w.heap.size ≤ w1.heap.size := hb.size
theorem new_e (n : Int) (m : Nat) (w : World) (hm : min (max n 1) 65536 = (m : Int)) :
    Calls Try.prog 8 #[.int .i64 n] w fun e w' => ∃ g d, e = .returned (.pointer (some ⟨g, 0, none⟩)) ∧ Sl w' g d m (List.replicate m 0) 0 false false 0 0 ∧ w.heap.size ≤ g ∧ w.heap.size ≤ d ∧ Below w.heap.size w w' :=
  (new_c n m w hm).mono fun e w' ⟨he, hs, hb⟩ => ⟨_, _, he, hs, by omega, Nat.le_refl _, hb⟩
theorem read_e (a m : Nat) (x y : Int) (r : List UInt8) (h : Sl w g d n l k dead cut left torn) (hx : x = (a : Int)) (hy : y = (m : Int)) (hd : dead = false) (hm : a + m ≤ n) (hr : (l.drop a).take m = r) : Calls Try.prog 12 #[.pointer (some ⟨g, 0, none⟩), .int .i64 x, .int .i64 y] w fun e w' => ∃ q, e = .returned (.tuple #[.slice (some ⟨q, 0, none⟩) m m, .bool true]) ∧ Row w' q r ∧ w.heap.size ≤ q ∧ Below w.heap.size w w' := by
  subst hr
  exact (read_yes a m x y h hx hy hd hm).mono fun e w' ⟨he, hs, hb⟩ => ⟨_, he, hs, Nat.le_refl _, hb⟩
end
section
variable {w : World} {g d n : Nat} {l : List UInt8} {k left torn : Int} {dead : Bool}
set_option maxRecDepth 100000 in
set_option maxHeartbeats 800000 in
theorem refRead_no (a m : Int) (h : Rs w g d n l left torn dead k) (ha : a ≤ 9223372036854775807) (hβ : okB dead a m n = false) : Calls Try.prog 20 #[.pointer (some ⟨g, 0, none⟩), .int .i64 a, .int .i64 m] w fun e w' => e = .returned (.tuple #[.slice none 0 0, .bool false]) ∧ w = w' := by
  have H := Lib.hid h
  have HO := Lib.hid hβ
  clear h hβ
  go_enter Try.func20, Try.ntmps20
  go_wp2_with fail
  (with_reducible refine (there_c a m false H.out ha HO.out).mono ?_)
  rintro e w' ⟨rfl, rfl⟩
  go_wp2
  go_ret2
  exact ⟨rfl, rfl⟩
set_option maxRecDepth 100000 in
set_option maxHeartbeats 800000 in
theorem refRead_yes (a m : Nat) (x y : Int) (h : Rs w g d n l left torn dead k) (hx : x = (a : Int)) (hy : y = (m : Int)) (hd : dead = false) (hm : a + m ≤ n) : Calls Try.prog 20 #[.pointer (some ⟨g, 0, none⟩), .int .i64 x, .int .i64 y] w fun e w' => ∃ q c, e = .returned (.tuple #[.slice (some ⟨q, 0, none⟩) m c, .bool true]) ∧ Own w' w.heap.size q m c ((l.drop a).take m) ∧ Below w.heap.size w w' := by
  subst hx hy hd
  obtain ⟨i0, hi, hz0, hz1, hz2⟩ := info_parts Try.i8
  have hn := h.2.2.2.2
  obtain ⟨lg, c0, c1, c2, c3, c4⟩ := h.cells
  have hok : okB false (a : Int) (m : Int) n = true := by simp [okB]; omega
  have HC := Lib.hid (((h.2.1.bs h.2.2.1).cut (k := a) (by omega)).head (k := m) (by omega))
  have H := Lib.hid h
  have HO := Lib.hid hok
  have a0 : (0 : Int) ≤ (a : Int) := by omega
  have am : (a : Int) ≤ (a : Int) + (m : Int) := by omega
  have an : (a : Int) + (m : Int) ≤ (n : Int) := by omega
  have ha9 : (a : Int) ≤ 9223372036854775807 := by omega
  have e1 : (a : Int) + (m : Int) - (a : Int) = (m : Int) := by omega
  have e2 : a + m - a = m := by omega
  have e3 : ((a : Int) + (m : Int)).toNat = a + m := by omega
  have HM := Lib.hid hm
  clear h hok hm
  by_cases hc : n = a
  · replace HC := Lib.hid (show Bs w w.heap.size (some ⟨d, 0, none⟩) m (n - a) ((l.drop a).take m) by have := HC.out; rwa [if_pos hc] at this)
    have HA := Lib.hid hc
    go_enter Try.func20, Try.ntmps20
    go_wp2_with fail
    (with_reducible refine (there_c _ _ true H.out ha9 HO.out).mono ?_)
    rintro e w' ⟨rfl, rfl⟩
    go_wp2_with (at_builtin; refine wpList_append_own _ rfl (.tmp 13) (.tmp 22) _ rfl w.heap.size 5 i0 (.int .u8 0) 1 1 Try.u42 hi hz0 hz1 hz2 rfl (by decide) (.slice (some ⟨w.heap.size, 0, none⟩) 0 0) 0 [] rfl (own_zero w) ⟨d, 0, none⟩ m _ (Lib.byteCells ((l.drop a).take m)) rfl (by rw [Lib.byteCells_length, HC.out.len, Nat.mul_one]) ((HC.out.alloc (Nat.le_refl _) _).news ⟨d, 0, none⟩ rfl) (byteCells_ones _) (by have := HM.out; unfold maxLen; omega) (by have := HM.out; omega) (by simp) ?_; intro v1 w1 hown hgrow hnil)
    go_ret2
    rw [Nat.zero_add, List.nil_append] at hown
    obtain ⟨q, c1, rfl, hO⟩ := own_ne hown (fun e => by have := hnil.1 e; simp at this)
    exact ⟨q, c1, rfl, hO, ((Below.refl _ _).alloc (Nat.le_refl _) _).grown hgrow (by simp) (fun k hk => by cases hk; exact Nat.le_refl _)⟩
  · replace HC := Lib.hid (show Bs w w.heap.size (some ⟨d, a, none⟩) m (n - a) ((l.drop a).take m) by have := HC.out; rw [if_neg hc] at this; simpa [Addr.add_lit] using this)
    have HA := Lib.hid hc
    go_enter Try.func20, Try.ntmps20
    go_wp2_with fail
    (with_reducible refine (there_c _ _ true H.out ha9 HO.out).mono ?_)
    rintro e w' ⟨rfl, rfl⟩
    go_wp2_with (at_builtin; refine wpList_append_own _ rfl (.tmp 13) (.tmp 22) _ rfl w.heap.size 5 i0 (.int .u8 0) 1 1 Try.u42 hi hz0 hz1 hz2 rfl (by decide) (.slice (some ⟨w.heap.size, 0, none⟩) 0 0) 0 [] rfl (own_zero w) ⟨d, a, none⟩ m _ (Lib.byteCells ((l.drop a).take m)) rfl (by rw [Lib.byteCells_length, HC.out.len, Nat.mul_one]) ((HC.out.alloc (Nat.le_refl _) _).news ⟨d, a, none⟩ rfl) (byteCells_ones _) (by have := HM.out; unfold maxLen; omega) (by have := HM.out; omega) (by simp) ?_; intro v1 w1 hown hgrow hnil)
    go_ret2
    rw [Nat.zero_add, List.nil_append] at hown
    obtain ⟨q, c1, rfl, hO⟩ := own_ne hown (fun e => by have := hnil.1 e; simp at this)
    exact ⟨q, c1, rfl, hO, ((Below.refl _ _).alloc (Nat.le_refl _) _).grown hgrow (by simp) (fun k hk => by cases hk; exact Nat.le_refl _)⟩
end
end Go.Proofs.Ytlaknhbgckppkaa

/- For every input 'LimbAdds' returns true and leaves its arguments as they were. No condition. -/
import Derived.Test.YtipkchgibomgkaaRows
import Derived.WalkKit
import Derived.ProofKit
import Derived.OpenShut
import Derived.Test.YtipkchgibomgkaaHand
import Derived.Test.YtipkchgibomgkaaPost
namespace Go.Proofs.Ytipkchgibomgkaa.limbAdds
open Go.ChangeShapes Go.WideShapes Go.ChangeAt Go.RowKit
set_option linter.unusedVariables false

theorem own : ownKnob Try.prog.godebug = none := by kernel_rfl

theorem bel_of {w0 w : World} {P Q R : Prop} (h : P ∧ Q ∧ Below w0.heap.size w0 w ∧ R) : Below w0.heap.size w0 w := h.2.2.1
theorem cmp3 (X Y : Nat) : X < Y ∧ cmpI X Y = -1 ∧ cmpI Y X = 1 ∨ X = Y ∧ cmpI X Y = 0 ∧ cmpI Y X = 0 ∨ Y < X ∧ cmpI X Y = 1 ∧ cmpI Y X = -1 := by
  unfold cmpI
  rcases Nat.lt_trichotomy X Y with h | h | h
  · left; refine ⟨h, ?_, ?_⟩
    · rw [if_neg (by omega), if_pos h]
    · rw [if_neg (by omega), if_neg (by omega)]
  · right; left; subst h; simp
  · right; right; refine ⟨h, ?_, ?_⟩
    · rw [if_neg (by omega), if_neg (by omega)]
    · rw [if_neg (by omega), if_pos h]
theorem add_comm' {x0 x1 y0 y1 s0 s1 t0 t1 : Int} {p q : Bool} (h : AddR x0 x1 y0 y1 s0 s1 p) (g : AddR y0 y1 x0 x1 t0 t1 q) : s0 = t0 ∧ s1 = t1 ∧ p = q := by
  obtain ⟨h0, h1, h⟩ := h
  obtain ⟨g0, g1, g⟩ := g
  rcases h with ⟨a, b, c⟩ | ⟨a, b, c, d⟩ <;> rcases g with ⟨a', b', c'⟩ | ⟨a', b', c', d'⟩
  · obtain ⟨e1, e2⟩ := v2_inj h0 h1 g0 g1 (by omega)
    exact ⟨e1, e2, by rw [b, b']⟩
  · omega
  · omega
  · exact ⟨by omega, by omega, by rw [b, b']⟩
/-- What is added and taken away again. -/
theorem back {x0 x1 y0 y1 s0 s1 t0 t1 : Int} {q : Bool} (hx0 : U64 x0) (hx1 : U64 x1) (h : AddR x0 x1 y0 y1 s0 s1 true) (g : SubR s0 s1 y0 y1 t0 t1 q) : q = true ∧ x0 = t0 ∧ x1 = t1 ∧ v2 x0 x1 ≤ v2 s0 s1 := by
  obtain ⟨h0, h1, h⟩ := h
  obtain ⟨g0, g1, g⟩ := g
  rcases h with ⟨a, b, c⟩ | ⟨a, b, c, d⟩
  · rcases g with ⟨a', b', c'⟩ | ⟨a', b', c', d'⟩
    · obtain ⟨e1, e2⟩ := v2_inj g0 g1 hx0 hx1 (by omega)
      exact ⟨b', e1.symm, e2.symm, by omega⟩
    · omega
  · cases b
theorem sub_ok {x0 x1 y0 y1 s0 s1 : Int} {p : Bool} (h : SubR x0 x1 y0 y1 s0 s1 p) : p = decide (v2 y0 y1 ≤ v2 x0 x1) := by
  obtain ⟨_, _, ⟨a, rfl, _⟩ | ⟨a, rfl, _⟩⟩ := h
  · exact (decide_eq_true a).symm
  · exact (decide_eq_false (by omega)).symm

/-- The last statement: what it reads of, and what is known. -/
def Last (x0 x1 y0 y1 : Int) (over : Bool) : Prop := over = decide (v2 y0 y1 ≤ v2 x0 x1) ∧ U64 x0 ∧ U64 x1 ∧ U64 y0 ∧ U64 y1

set_option maxRecDepth 100000 in
set_option maxHeartbeats 3200000 in
theorem walk (a0 : Int) (a1 : Int) (a2 : Int) (a3 : Int) (a4 : Int) (a5 : Int) (w0 : (Lit.int .u64 a0).wf = true) (w1 : (Lit.int .u64 a1).wf = true) (w2 : (Lit.int .u64 a2).wf = true) (w3 : (Lit.int .u64 a3).wf = true) (w4 : (Lit.int .i64 a4).wf = true) (w5 : (Lit.int .i64 a5).wf = true) (w : World) :
    Calls Try.prog 7 #[.int .u64 a0, .int .u64 a1, .int .u64 a2, .int .u64 a3, .int .i64 a4, .int .i64 a5] w fun e w' => e = .returned (.bool true) ∧ Below w.heap.size w w' := by
  have u0 := u64_of_wf w0
  have u1 := u64_of_wf w1
  have u2 := u64_of_wf w2
  have u3 := u64_of_wf w3
  clear w0 w1 w2 w3 w4 w5
  go_enter Try.func7, Try.ntmps7
  go_wp2_with fail
  refine (words_l a0 a1 a4 _ u0 u1).mono ?_
  rintro e wa ⟨_, ⟨x0, x1, ⟨hx0, hx1⟩, rfl⟩, rfl, hb1⟩
  have W := hb1
  clear hb1
  go_wp2_with fail
  refine (words_l a2 a3 a5 _ u2 u3).mono ?_
  rintro e wb ⟨_, ⟨y0, y1, ⟨hy0, hy1⟩, rfl⟩, rfl, hb2⟩
  replace W := (bel_alloc W _).trans (hb2.mono (bel_alloc W _).size)
  have BX := (Blk.new wa 23 #[.int .u64 x0, .int .u64 x1]).below hb2 (by simp)
  clear hb2
  have lx := BX.lt
  have x0c := BX.cell 0
  have x1c := BX.cell 1
  simp at x0c x1c
  go_wp2_with fail
  refine (add_c x0 x1 y0 y1 _ hx0 hx1 hy0 hy1).mono ?_
  rintro e wc ⟨_, ⟨s0, s1, p, HS, rfl⟩, rfl, hb3⟩
  replace W := (bel_alloc W _).trans (hb3.mono (bel_alloc W _).size)
  have BY := (Blk.new wb 23 #[.int .u64 y0, .int .u64 y1]).below hb3 (by simp)
  replace BX := (BX.alloc _).below hb3 (by simp; omega)
  clear hb3 lx x0c x1c
  have lx := BX.lt
  have ly := BY.lt
  have x0c := BX.cell 0
  have x1c := BX.cell 1
  have y0c := BY.cell 0
  have y1c := BY.cell 1
  simp at x0c x1c y0c y1c
  go_wp2_with fail
  refine (add_c y0 y1 x0 x1 _ hy0 hy1 hx0 hx1).mono ?_
  rintro e wd ⟨_, ⟨t0, t1, p', HT, rfl⟩, rfl, hb4⟩
  obtain ⟨rfl, rfl, rfl⟩ := add_comm' HS HT
  have BS := (Blk.new wc 23 #[.int .u64 s0, .int .u64 s1]).below hb4 (by simp)
  replace W := (bel_alloc W _).trans (hb4.mono (bel_alloc W _).size)
  replace BX := (BX.alloc _).below hb4 (by simp; omega)
  replace BY := (BY.alloc _).below hb4 (by simp; omega)
  clear hb4 lx ly x0c x1c y0c y1c HT
  go_wp2_with fail
  refine (known_c _).mono ?_
  rintro e we ⟨_, rfl, rfl, hb5⟩
  have BT := (Blk.new wd 23 #[.int .u64 s0, .int .u64 s1]).below hb5 (by simp)
  have lx := BX.lt
  have ly := BY.lt
  have ls := BS.lt
  replace W := (bel_alloc W _).trans (hb5.mono (bel_alloc W _).size)
  replace BX := (BX.alloc _).below hb5 (by simp; omega)
  replace BY := (BY.alloc _).below hb5 (by simp; omega)
  replace BS := (BS.alloc _).below hb5 (by simp; omega)
  clear hb5 lx ly ls
  have qs := eqW2_yes (a := s0) (b := s1) ⟨rfl, rfl⟩
  have x0c := BX.cell 0
  have x1c := BX.cell 1
  have y0c := BY.cell 0
  have y1c := BY.cell 1
  have s0c := BS.cell 0
  have s1c := BS.cell 1
  have t0c := BT.cell 0
  have t1c := BT.cell 1
  simp at x0c x1c y0c y1c s0c s1c t0c t1c
  cases p
  · go_wp2_with fail
    refine (sub_c x0 x1 y0 y1 _ hx0 hx1 hy0 hy1).mono ?_
    rintro e wf ⟨_, ⟨d0, d1, over, HD, rfl⟩, rfl, hb6⟩
    have ho := sub_ok HD
    replace W := W.trans (hb6.mono W.size)
    replace BX := BX.below hb6 BX.lt
    replace BY := BY.below hb6 BY.lt
    clear hb6 x0c x1c y0c y1c s0c s1c t0c t1c HD HS BS BT qs
    have lx := BX.lt
    have ly := BY.lt
    have x0c := BX.cell 0
    have x1c := BX.cell 1
    have y0c := BY.cell 0
    have y1c := BY.cell 1
    simp at x0c x1c y0c y1c
    have n1 : wrap64 (-1) = -1 := by unfold wrap64; omega
    have n2 : IntKind.i64.wrap (-1) = -1 := by decide
    have n3 : wrap64 1 = 1 := by unfold wrap64; omega
    have n4 : IntKind.i64.wrap 1 = 1 := by decide
    have n5 : ((-1 : Int) == -1) = true := by decide
    have n6 : wrap64 0 = 0 := by unfold wrap64; omega
    have n7 : IntKind.i64.wrap 0 = 0 := by decide
    rcases cmp3 (v2 x0 x1) (v2 y0 y1) with ⟨hc, e1, e2⟩ | ⟨hc, e1, e2⟩ | ⟨hc, e1, e2⟩
    · obtain rfl : over = false := by rw [ho]; exact decide_eq_false (by omega)
      have q := eqW2_no (a := x0) (b := x1) (c := y0) (d := y1) (fun h => by rw [h.1, h.2] at hc; omega)
      clear hc ho
      go_upto_region 12 with fail
      go_region_held3 (fun w' => Blk w' wa.heap.size 23 #[.int .u64 x0, .int .u64 x1] ∧ Blk w' wb.heap.size 23 #[.int .u64 y0, .int .u64 y1] ∧ Below w.heap.size w w' ∧ w'.cell? ⟨wa.heap.size, 0, none⟩ = some (.int .u64 x0) ∧ w'.cell? ⟨wa.heap.size, 1, none⟩ = some (.int .u64 x1) ∧ w'.cell? ⟨wb.heap.size, 0, none⟩ = some (.int .u64 y0) ∧ w'.cell? ⟨wb.heap.size, 1, none⟩ = some (.int .u64 y1)) (first | exact hold22 (BX.alloc _).drew (BY.alloc _).drew (bel_alloc W _).drew | exact hold22_bel hbx (by assumption)) (first | (go_at_call 19; refine (cmp_c _ _ _ _ _ (by assumption) (by assumption) (by assumption) (by assumption)).mono ?_; rintro e wx ⟨_, rfl, rfl, hbx⟩))
      have fin : Below w.heap.size w wx := bel_of (by assumption)
      go_wp2
      go_ret
      exact ⟨rfl, fin⟩
    · obtain rfl : over = true := by rw [ho]; exact decide_eq_true (by omega)
      have q := eqW2_yes (v2_inj hx0 hx1 hy0 hy1 hc)
      clear hc ho
      go_upto_region 12 with fail
      go_region_held3 (fun w' => Blk w' wa.heap.size 23 #[.int .u64 x0, .int .u64 x1] ∧ Blk w' wb.heap.size 23 #[.int .u64 y0, .int .u64 y1] ∧ Below w.heap.size w w' ∧ w'.cell? ⟨wa.heap.size, 0, none⟩ = some (.int .u64 x0) ∧ w'.cell? ⟨wa.heap.size, 1, none⟩ = some (.int .u64 x1) ∧ w'.cell? ⟨wb.heap.size, 0, none⟩ = some (.int .u64 y0) ∧ w'.cell? ⟨wb.heap.size, 1, none⟩ = some (.int .u64 y1)) (first | exact hold22 (BX.alloc _).drew (BY.alloc _).drew (bel_alloc W _).drew | exact hold22_bel hbx (by assumption)) (first | (go_at_call 19; refine (cmp_c _ _ _ _ _ (by assumption) (by assumption) (by assumption) (by assumption)).mono ?_; rintro e wx ⟨_, rfl, rfl, hbx⟩))
      have fin : Below w.heap.size w wx := bel_of (by assumption)
      go_wp2
      go_ret
      exact ⟨rfl, fin⟩
    · obtain rfl : over = true := by rw [ho]; exact decide_eq_true (by omega)
      have q := eqW2_no (a := x0) (b := x1) (c := y0) (d := y1) (fun h => by rw [h.1, h.2] at hc; omega)
      clear hc ho
      go_upto_region 12 with fail
      go_region_held3 (fun w' => Blk w' wa.heap.size 23 #[.int .u64 x0, .int .u64 x1] ∧ Blk w' wb.heap.size 23 #[.int .u64 y0, .int .u64 y1] ∧ Below w.heap.size w w' ∧ w'.cell? ⟨wa.heap.size, 0, none⟩ = some (.int .u64 x0) ∧ w'.cell? ⟨wa.heap.size, 1, none⟩ = some (.int .u64 x1) ∧ w'.cell? ⟨wb.heap.size, 0, none⟩ = some (.int .u64 y0) ∧ w'.cell? ⟨wb.heap.size, 1, none⟩ = some (.int .u64 y1)) (first | exact hold22 (BX.alloc _).drew (BY.alloc _).drew (bel_alloc W _).drew | exact hold22_bel hbx (by assumption)) (first | (go_at_call 19; refine (cmp_c _ _ _ _ _ (by assumption) (by assumption) (by assumption) (by assumption)).mono ?_; rintro e wx ⟨_, rfl, rfl, hbx⟩))
      have fin : Below w.heap.size w wx := bel_of (by assumption)
      go_wp2
      go_ret
      exact ⟨rfl, fin⟩
  · go_wp2_with fail
    refine (sub_c s0 s1 y0 y1 _ HS.1 HS.2.1 hy0 hy1).mono ?_
    rintro e wg ⟨_, ⟨t0, t1, ok, HB, rfl⟩, rfl, hb7⟩
    obtain ⟨rfl, rfl, rfl, hle⟩ := back hx0 hx1 HS HB
    have BU := (Blk.new wg 23 #[.int .u64 x0, .int .u64 x1])
    replace W := W.trans (hb7.mono W.size)
    replace BX := BX.below hb7 BX.lt
    replace BY := BY.below hb7 BY.lt
    replace BS := BS.below hb7 BS.lt
    replace BT := BT.below hb7 BT.lt
    clear hb7 x0c x1c y0c y1c s0c s1c t0c t1c HB
    have lx := BX.lt
    have ls := BS.lt
    have x0c := BX.cell 0
    have x1c := BX.cell 1
    have s0c := BS.cell 0
    have s1c := BS.cell 1
    simp at x0c x1c s0c s1c
    have qx := eqW2_yes (a := x0) (b := x1) ⟨rfl, rfl⟩
    obtain ⟨z, hz, hz0⟩ : ∃ z, cmpI (v2 s0 s1) (v2 x0 x1) = z ∧ 0 ≤ z := ⟨_, rfl, cmpI_ge hle⟩
    have Hz := Lib.hid hz
    clear hz hle
    go_wp2_with fail
    refine (cmp_c s0 s1 x0 x1 _ HS.1 HS.2.1 hx0 hx1).mono ?_
    rintro e wh ⟨v, hv, rfl, hb8⟩
    rw [IsInt, Hz.out] at hv
    subst hv
    have ly := BY.lt
    have lt := BT.lt
    replace W := (bel_alloc W _).trans (hb8.mono (bel_alloc W _).size)
    replace BX := (BX.alloc _).below hb8 (by simp; omega)
    replace BY := (BY.alloc _).below hb8 (by simp; omega)
    replace BS := (BS.alloc _).below hb8 (by simp; omega)
    replace BT := (BT.alloc _).below hb8 (by simp; omega)
    clear hb8 x0c x1c s0c s1c lx ls ly lt BU qx
    have x0c := BX.cell 0
    have x1c := BX.cell 1
    have y0c := BY.cell 0
    have y1c := BY.cell 1
    have s0c := BS.cell 0
    have s1c := BS.cell 1
    have t0c := BT.cell 0
    have t1c := BT.cell 1
    simp at x0c x1c y0c y1c s0c s1c t0c t1c
    go_wp2_with fail
    refine (sub_c x0 x1 y0 y1 _ hx0 hx1 hy0 hy1).mono ?_
    rintro e wf ⟨_, ⟨d0, d1, over, HD, rfl⟩, rfl, hb6⟩
    have ho := sub_ok HD
    replace W := W.trans (hb6.mono W.size)
    replace BX := BX.below hb6 BX.lt
    replace BY := BY.below hb6 BY.lt
    clear hb6 x0c x1c y0c y1c s0c s1c t0c t1c HD HS BS BT qs
    have lx := BX.lt
    have ly := BY.lt
    have x0c := BX.cell 0
    have x1c := BX.cell 1
    have y0c := BY.cell 0
    have y1c := BY.cell 1
    simp at x0c x1c y0c y1c
    have n1 : wrap64 (-1) = -1 := by unfold wrap64; omega
    have n2 : IntKind.i64.wrap (-1) = -1 := by decide
    have n3 : wrap64 1 = 1 := by unfold wrap64; omega
    have n4 : IntKind.i64.wrap 1 = 1 := by decide
    have n5 : ((-1 : Int) == -1) = true := by decide
    have n6 : wrap64 0 = 0 := by unfold wrap64; omega
    have n7 : IntKind.i64.wrap 0 = 0 := by decide
    rcases cmp3 (v2 x0 x1) (v2 y0 y1) with ⟨hc, e1, e2⟩ | ⟨hc, e1, e2⟩ | ⟨hc, e1, e2⟩
    · obtain rfl : over = false := by rw [ho]; exact decide_eq_false (by omega)
      have q := eqW2_no (a := x0) (b := x1) (c := y0) (d := y1) (fun h => by rw [h.1, h.2] at hc; omega)
      clear hc ho
      go_upto_region 12 with fail
      go_region_held3 (fun w' => Blk w' wa.heap.size 23 #[.int .u64 x0, .int .u64 x1] ∧ Blk w' wb.heap.size 23 #[.int .u64 y0, .int .u64 y1] ∧ Below w.heap.size w w' ∧ w'.cell? ⟨wa.heap.size, 0, none⟩ = some (.int .u64 x0) ∧ w'.cell? ⟨wa.heap.size, 1, none⟩ = some (.int .u64 x1) ∧ w'.cell? ⟨wb.heap.size, 0, none⟩ = some (.int .u64 y0) ∧ w'.cell? ⟨wb.heap.size, 1, none⟩ = some (.int .u64 y1)) (first | exact hold22 (BX.alloc _).drew (BY.alloc _).drew (bel_alloc W _).drew | exact hold22_bel hbx (by assumption)) (first | (go_at_call 19; refine (cmp_c _ _ _ _ _ (by assumption) (by assumption) (by assumption) (by assumption)).mono ?_; rintro e wx ⟨_, rfl, rfl, hbx⟩))
      have fin : Below w.heap.size w wx := bel_of (by assumption)
      go_wp2
      go_ret
      exact ⟨rfl, fin⟩
    · obtain rfl : over = true := by rw [ho]; exact decide_eq_true (by omega)
      have q := eqW2_yes (v2_inj hx0 hx1 hy0 hy1 hc)
      clear hc ho
      go_upto_region 12 with fail
      go_region_held3 (fun w' => Blk w' wa.heap.size 23 #[.int .u64 x0, .int .u64 x1] ∧ Blk w' wb.heap.size 23 #[.int .u64 y0, .int .u64 y1] ∧ Below w.heap.size w w' ∧ w'.cell? ⟨wa.heap.size, 0, none⟩ = some (.int .u64 x0) ∧ w'.cell? ⟨wa.heap.size, 1, none⟩ = some (.int .u64 x1) ∧ w'.cell? ⟨wb.heap.size, 0, none⟩ = some (.int .u64 y0) ∧ w'.cell? ⟨wb.heap.size, 1, none⟩ = some (.int .u64 y1)) (first | exact hold22 (BX.alloc _).drew (BY.alloc _).drew (bel_alloc W _).drew | exact hold22_bel hbx (by assumption)) (first | (go_at_call 19; refine (cmp_c _ _ _ _ _ (by assumption) (by assumption) (by assumption) (by assumption)).mono ?_; rintro e wx ⟨_, rfl, rfl, hbx⟩))
      have fin : Below w.heap.size w wx := bel_of (by assumption)
      go_wp2
      go_ret
      exact ⟨rfl, fin⟩
    · obtain rfl : over = true := by rw [ho]; exact decide_eq_true (by omega)
      have q := eqW2_no (a := x0) (b := x1) (c := y0) (d := y1) (fun h => by rw [h.1, h.2] at hc; omega)
      clear hc ho
      go_upto_region 12 with fail
      go_region_held3 (fun w' => Blk w' wa.heap.size 23 #[.int .u64 x0, .int .u64 x1] ∧ Blk w' wb.heap.size 23 #[.int .u64 y0, .int .u64 y1] ∧ Below w.heap.size w w' ∧ w'.cell? ⟨wa.heap.size, 0, none⟩ = some (.int .u64 x0) ∧ w'.cell? ⟨wa.heap.size, 1, none⟩ = some (.int .u64 x1) ∧ w'.cell? ⟨wb.heap.size, 0, none⟩ = some (.int .u64 y0) ∧ w'.cell? ⟨wb.heap.size, 1, none⟩ = some (.int .u64 y1)) (first | exact hold22 (BX.alloc _).drew (BY.alloc _).drew (bel_alloc W _).drew | exact hold22_bel hbx (by assumption)) (first | (go_at_call 19; refine (cmp_c _ _ _ _ _ (by assumption) (by assumption) (by assumption) (by assumption)).mono ?_; rintro e wx ⟨_, rfl, rfl, hbx⟩))
      have fin : Below w.heap.size w wx := bel_of (by assumption)
      go_wp2
      go_ret
      exact ⟨rfl, fin⟩

set_option maxRecDepth 100000 in
theorem lifted (os : Os) (started : os.Started) (H : Type) (enc : TypeId × Value → H) :
    ReturnsInHanded {} Try.checked os 7 .any (Rows.limbAddsSpec.pre6 enc Try.prog Try.f7 Rows.limbAddsRow.domain false) (Rows.limbAddsSpec.post enc Try.prog Try.f7 false true false false) := by
  refine returnsInHanded_of_change (C := Try.checked) own started (by kernel_rfl) Try.func7
    (ChangeSpec.witness6 (enc := enc) (C := Try.checked) false ⟨#[], #[.int .u64 0, .int .u64 0, .int .u64 0, .int .u64 0, .int .i64 0, .int .i64 0], []⟩ 8 (by kernel_rfl) (by kernel_rfl) (by kernel_rfl) (by kernel_rfl)) ?_
  intro W base args ds gs before hval0 hW hcnd _
  have hval : ∀ (j : Nat) t v, Try.f7.params[j]? = some t → args[j]? = some v → Value.okWide Try.prog W .any base t v := hval0
  have hW' := hW
  obtain ⟨p, q, hA0, hV, rfl, hfz, hnd⟩ := hW
  have hA : DataW.TrodAll enc Try.prog W 0 (fun _ => true) true Try.f7.params.toList args.toList ds p := hA0
  rw [Try.params7] at hA hval
  obtain ⟨v0, vs0, d0, ds0, p0, q0, hargs, rfl, rfl, h0, r0⟩ := trodAll_cons hA
  obtain ⟨v1, vs1, d1, ds1, p1, q1, rfl, rfl, rfl, h1, r1⟩ := trodAll_cons r0
  obtain ⟨v2, vs2, d2, ds2, p2, q2, rfl, rfl, rfl, h2, r2⟩ := trodAll_cons r1
  obtain ⟨v3, vs3, d3, ds3, p3, q3, rfl, rfl, rfl, h3, r3⟩ := trodAll_cons r2
  obtain ⟨v4, vs4, d4, ds4, p4, q4, rfl, rfl, rfl, h4, r4⟩ := trodAll_cons r3
  obtain ⟨v5, vs5, d5, ds5, p5, q5, rfl, rfl, rfl, h5, r5⟩ := trodAll_cons r4
  obtain ⟨rfl, rfl, rfl⟩ := trodAll_nil r5
  obtain rfl : args = #[v0, v1, v2, v3, v4, v5] := by cases args; simp_all
  obtain ⟨rfl, rfl⟩ := trodVars_none hV
  obtain ⟨a0, rfl, rfl, rfl, w0⟩ := open_int Try.underlying22 (hval 0 22 v0 rfl rfl) h0
  obtain ⟨a1, rfl, rfl, rfl, w1⟩ := open_int Try.underlying22 (hval 1 22 v1 rfl rfl) h1
  obtain ⟨a2, rfl, rfl, rfl, w2⟩ := open_int Try.underlying22 (hval 2 22 v2 rfl rfl) h2
  obtain ⟨a3, rfl, rfl, rfl, w3⟩ := open_int Try.underlying22 (hval 3 22 v3 rfl rfl) h3
  obtain ⟨a4, rfl, rfl, rfl, w4⟩ := open_int Try.underlying3 (hval 4 3 v4 rfl rfl) h4
  obtain ⟨a5, rfl, rfl, rfl, w5⟩ := open_int Try.underlying3 (hval 5 3 v5 rfl rfl) h5
  clear hA0 hval0
  simp only [List.append_nil] at hW'
  refine (walk a0 a1 a2 a3 a4 a5 w0 w1 w2 w3 w4 w5 W).mono fun e W' ⟨he, hg⟩ => ?_
  subst he
  exact ⟨_, rfl, post_bel (pa := []) (pv := []) hW' (fun _ _ _ => (trodAll_cons_mk (shut_bool Try.underlying4 _) trodAll_mk0)) (fun sp _ => (trodAll_cons_mk (shut_int Try.underlying22 w0) (trodAll_cons_mk (shut_int Try.underlying22 w1) (trodAll_cons_mk (shut_int Try.underlying22 w2) (trodAll_cons_mk (shut_int Try.underlying22 w3) (trodAll_cons_mk (shut_int Try.underlying3 w4) (trodAll_cons_mk (shut_int Try.underlying3 w5) trodAll_mk0))))))) (fun _ _ => rfl) rfl
    hg (ok_one (by kernel_rfl) rfl (okWide_bool_mk Try.underlying4 _))⟩

theorem over : Rows.limbAddsRow.holds Try.pinned (OpenSpec.ofChange Rows.limbAddsSpec) :=
  OpenClaim.holds_of_wide 7 Try.f7 rfl rfl rfl rfl rfl rfl rfl ⟨rfl, rfl, rfl, rfl, rfl⟩ rfl rfl rfl rfl rfl (by kernel_rfl) Try.func7 (by kernel_rfl)
    (of_decide_eq_true (by kernel_rfl)) (by unfold Func.isWrapper; first | (rw [if_pos (by decide +kernel)]; kernel_rfl) | (rw [if_neg (by decide +kernel)]; exact ⟨rfl, rfl⟩))
    (fun os started H enc _ => lifted os started H enc)

/-- The given statement. -/
theorem proved : Rows.LimbAddsSaid :=
  over
#print axioms proved
end Go.Proofs.Ytipkchgibomgkaa.limbAdds

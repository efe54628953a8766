/- LabelOrder. -/
import Derived.Test.YtpplledoankfgaaLabH
import Derived.Deep.DeepCutAuto
import Derived.Deep.CutBlock
namespace Go.Proofs.Ytpplledoankfgaa
open Go.RowKit
/-- Three labels, their Join and Meet. -/
def O5 (w : World) (A B C J I : Nat) (va vb vc mj mi : Int) (gj gi : Nat) (V : World) : Prop :=
  Blk V w.heap.size 25 #[.int .u64 (A : Int), .int .i64 va] ∧ Blk V (w.heap.size + 1) 25 #[.int .u64 (B : Int), .int .i64 vb] ∧ Blk V (w.heap.size + 1 + 1) 25 #[.int .u64 (C : Int), .int .i64 vc] ∧
  Blk V gj 25 #[.int .u64 (J : Int), .int .i64 mj] ∧ Blk V gi 25 #[.int .u64 (I : Int), .int .i64 mi] ∧ Below w.heap.size w V
section
variable {w V V' : World} {A B C J I : Nat} {va vb vc mj mi : Int} {gj gi : Nat}
theorem O5.below (h : O5 w A B C J I va vb vc mj mi gj gi V) (hb : Below V.heap.size V V') : O5 w A B C J I va vb vc mj mi gj gi V' :=
  ⟨h.1.below hb h.1.lt, h.2.1.below hb h.2.1.lt, h.2.2.1.below hb h.2.2.1.lt, h.2.2.2.1.below hb h.2.2.2.1.lt, h.2.2.2.2.1.below hb h.2.2.2.2.1.lt, bel_tr2 h.2.2.2.2.2 hb⟩
theorem O5.drew (h : O5 w A B C J I va vb vc mj mi gj gi V) : O5 w A B C J I va vb vc mj mi gj gi V.drew :=
  ⟨h.1.drew, h.2.1.drew, h.2.2.1.drew, h.2.2.2.1.drew, h.2.2.2.2.1.drew, h.2.2.2.2.2.drew⟩
def Cel (V : World) (g : Nat) (x v : Int) : Prop := V.cell? ⟨g, 0, none⟩ = some (.int .u64 x) ∧ V.cell? ⟨g, 1, none⟩ = some (.int .i64 v)
theorem cel_of {g : Nat} {t : TypeId} {x v : Int} (h : Blk V g t #[.int .u64 x, .int .i64 v]) : Cel V g x v := ⟨(two_of h).2.1, (two_of h).2.2.1⟩
theorem O5.cells (h : O5 w A B C J I va vb vc mj mi gj gi V) : Cel V w.heap.size A va ∧ Cel V (w.heap.size + 1) B vb ∧ Cel V (w.heap.size + 1 + 1) C vc ∧ Cel V gj J mj ∧ Cel V gi I mi :=
  ⟨cel_of h.1, cel_of h.2.1, cel_of h.2.2.1, cel_of h.2.2.2.1, cel_of h.2.2.2.2.1⟩
end
theorem below_q (a b : Nat) (v u : Int) (q : Bool) (w : World) (ha : a < 256) (hb : b < 256) (hq : belowB a v b u = q) : Calls Try.prog 13 #[.agg #[.int .u64 (a : Int), .int .i64 v], .agg #[.int .u64 (b : Int), .int .i64 u]] w fun e w' => e = .returned (.bool q) ∧ Below w.heap.size w w' :=
  below_v a b (a : Int) (b : Int) v u w rfl rfl (by omega) (by omega) q hq
theorem join_q (a b n : Nat) (v u r : Int) (w : World) (ha : a < 256) (hb : b < 256) (hn : a ||| b = n) (hr : max v u = r) : Calls Try.prog 11 #[.agg #[.int .u64 (a : Int), .int .i64 v], .agg #[.int .u64 (b : Int), .int .i64 u]] w fun e w' => e = .returned (.agg #[.int .u64 (n : Int), .int .i64 r]) ∧ Below w.heap.size w w' :=
  join_v a b (a : Int) (b : Int) v u (n : Int) r w rfl rfl (by omega) (by omega) (by rw [hn]) hr
theorem meet_q (a b n : Nat) (v u r : Int) (w : World) (ha : a < 256) (hb : b < 256) (hn : a &&& b = n) (hr : min v u = r) : Calls Try.prog 12 #[.agg #[.int .u64 (a : Int), .int .i64 v], .agg #[.int .u64 (b : Int), .int .i64 u]] w fun e w' => e = .returned (.agg #[.int .u64 (n : Int), .int .i64 r]) ∧ Below w.heap.size w w' :=
  meet_v a b (a : Int) (b : Int) v u (n : Int) r w rfl rfl (by omega) (by omega) (by rw [hn]) hr
theorem or_256 {a b : Nat} (ha : a < 256) (hb : b < 256) : a ||| b < 256 := Nat.or_lt_two_pow (n := 8) ha hb
theorem and_256 {a : Nat} (b : Nat) (ha : a < 256) : a &&& b < 256 := Nat.lt_of_le_of_lt Nat.and_le_left ha
theorem bl_refl (a : Nat) (v : Int) : belowB a v a v = true := belowB_iff.2 ⟨Nat.and_self a, by omega⟩
theorem bl_trans {a b c : Nat} {v u x : Int} (h : belowB a v b u = true) (h' : belowB b u c x = true) : belowB a v c x = true := by
  obtain ⟨h1, h2⟩ := belowB_iff.1 h
  obtain ⟨h3, h4⟩ := belowB_iff.1 h'
  exact belowB_iff.2 ⟨sub_iff.2 fun i hi => sub_iff.1 h3 i (sub_iff.1 h1 i hi), by omega⟩
theorem bl_anti {a b : Nat} {v u : Int} (h : belowB a v b u = true) (h' : belowB b u a v = true) : a = b ∧ v = u := by
  obtain ⟨h1, h2⟩ := belowB_iff.1 h
  obtain ⟨h3, h4⟩ := belowB_iff.1 h'
  exact ⟨h1.symm.trans ((Nat.and_comm a b).trans h3), by omega⟩
theorem bl_join1 (a b : Nat) (v u : Int) : belowB a v (a ||| b) (max v u) = true := belowB_iff.2 ⟨sub_iff.2 fun i hi => by rw [Nat.testBit_or, hi]; rfl, by omega⟩
theorem bl_join2 (a b : Nat) (v u : Int) : belowB b u (a ||| b) (max v u) = true := belowB_iff.2 ⟨sub_iff.2 fun i hi => by rw [Nat.testBit_or, hi]; simp, by omega⟩
theorem bl_meet1 (a b : Nat) (v u : Int) : belowB (a &&& b) (min v u) a v = true := belowB_iff.2 ⟨sub_iff.2 fun i hi => by rw [Nat.testBit_and] at hi; simp at hi; exact hi.1, by omega⟩
theorem bl_meet2 (a b : Nat) (v u : Int) : belowB (a &&& b) (min v u) b u = true := belowB_iff.2 ⟨sub_iff.2 fun i hi => by rw [Nat.testBit_and] at hi; simp at hi; exact hi.2, by omega⟩
theorem bl_least {a b c : Nat} {v u x : Int} (h : belowB a v c x = true) (h' : belowB b u c x = true) : belowB (a ||| b) (max v u) c x = true := by
  obtain ⟨h1, h2⟩ := belowB_iff.1 h
  obtain ⟨h3, h4⟩ := belowB_iff.1 h'
  refine belowB_iff.2 ⟨sub_iff.2 fun i hi => ?_, by omega⟩
  rw [Nat.testBit_or] at hi
  rcases Bool.or_eq_true_iff.1 hi with hi | hi
  · exact sub_iff.1 h1 i hi
  · exact sub_iff.1 h3 i hi
theorem bl_great {a b c : Nat} {v u x : Int} (h : belowB c x a v = true) (h' : belowB c x b u = true) : belowB c x (a &&& b) (min v u) = true := by
  obtain ⟨h1, h2⟩ := belowB_iff.1 h
  obtain ⟨h3, h4⟩ := belowB_iff.1 h'
  refine belowB_iff.2 ⟨sub_iff.2 fun i hi => ?_, by omega⟩
  rw [Nat.testBit_and, sub_iff.1 h1 i hi, sub_iff.1 h3 i hi]
  rfl
theorem or_and (a b : Nat) : a ||| (a &&& b) = a := Nat.eq_of_testBit_eq fun i => by
  rw [Nat.testBit_or, Nat.testBit_and]
  cases a.testBit i <;> simp
theorem and_or (a b : Nat) : a &&& (a ||| b) = a := Nat.eq_of_testBit_eq fun i => by
  rw [Nat.testBit_and, Nat.testBit_or]
  cases a.testBit i <;> simp
theorem bl_iff (a b : Nat) (v u : Int) : eqLab ((a ||| b : Nat) : Int) (max v u) (b : Int) u = belowB a v b u := by
  rw [eqLab_nat]
  unfold belowB
  have e : (a ||| b = b) ↔ (a &&& b = a) := by
    constructor
    · intro h
      rw [← h]
      exact and_or a b
    · intro h
      rw [← h, Nat.or_comm, Nat.and_comm]
      exact or_and b a
  have e2 : (max v u = u) ↔ v ≤ u := by omega
  congr 1
  · exact decide_eq_decide.2 e
  · exact decide_eq_decide.2 e2
theorem lab_if {α : Type} (a v b u : Int) (p : Bool) (f : Bool → α) (h : eqLab a v b u = p) : (if a = b then if v = u then f true else f false else f false) = f p := by
  subst h
  unfold eqLab
  by_cases h1 : a = b
  · subst h1
    rw [if_pos rfl]
    by_cases h2 : v = u
    · subst h2; simp
    · have e : (v == u) = false := by simpa using h2
      rw [if_neg h2, e]
      simp
  · have e : (a == b) = false := by simpa using h1
    rw [if_neg h1, e]
    rfl
def Imp2 (p q : Bool) (P : Prop) : Prop := p = true → q = true → P
theorem Imp2.go {p q : Bool} {P : Prop} (h : Imp2 p q P) (hp : p = true) (hq : q = true) : P := h hp hq
set_option maxRecDepth 100000 in
set_option maxHeartbeats 6400000 in
theorem labelOrder_c (x0 x1 x2 x3 x4 x5 : Int) (w : World) : Calls Try.prog 5 #[.int .i64 x0, .int .i64 x1, .int .i64 x2, .int .i64 x3, .int .i64 x4, .int .i64 x5] w fun e w' => e = .returned (.bool true) ∧ Below w.heap.size w w' := by
  go_enter Try.func5, Try.ntmps5
  go_wp2_with fail
  (with_reducible refine (pickB x0 256 _ (by omega) (by omega)).mono ?_)
  rintro e w' ⟨A, hA, rfl, rfl⟩
  go_wp2_with fail
  (with_reducible refine (pickB x1 4 _ (by omega) (by omega)).mono ?_)
  rintro e w' ⟨va, hva, rfl, rfl⟩
  go_wp2_with fail
  (with_reducible refine (pickB x2 256 _ (by omega) (by omega)).mono ?_)
  rintro e w' ⟨B, hB, rfl, rfl⟩
  go_wp2_with fail
  (with_reducible refine (pickB x3 4 _ (by omega) (by omega)).mono ?_)
  rintro e w' ⟨vb, hvb, rfl, rfl⟩
  go_wp2_with fail
  (with_reducible refine (pickB x4 256 _ (by omega) (by omega)).mono ?_)
  rintro e w' ⟨C, hC, rfl, rfl⟩
  go_wp2_with fail
  (with_reducible refine (pickB x5 4 _ (by omega) (by omega)).mono ?_)
  rintro e w' ⟨vc, hvc, rfl, rfl⟩
  have hA3 := ((Blk.new w 25 #[.int .u64 (A : Int), .int .i64 (va : Int)]).alloc (.cells #[.int .u64 (B : Int), .int .i64 (vb : Int)] 25)).alloc (.cells #[.int .u64 (C : Int), .int .i64 (vc : Int)] 25)
  have hB3 := (Blk.new (w.alloc (.cells #[.int .u64 (A : Int), .int .i64 (va : Int)] 25)) 25 #[.int .u64 (B : Int), .int .i64 (vb : Int)]).alloc (.cells #[.int .u64 (C : Int), .int .i64 (vc : Int)] 25)
  have hC3 := Blk.new ((w.alloc (.cells #[.int .u64 (A : Int), .int .i64 (va : Int)] 25)).alloc (.cells #[.int .u64 (B : Int), .int .i64 (vb : Int)] 25)) 25 #[.int .u64 (C : Int), .int .i64 (vc : Int)]
  have hb3 := bel_alloc (bel_alloc (bel_alloc (Below.refl w.heap.size w) (.cells #[.int .u64 (A : Int), .int .i64 (va : Int)] 25)) (.cells #[.int .u64 (B : Int), .int .i64 (vb : Int)] 25)) (.cells #[.int .u64 (C : Int), .int .i64 (vc : Int)] 25)
  obtain ⟨W, hW⟩ : ∃ W, ((w.alloc (.cells #[.int .u64 (A : Int), .int .i64 (va : Int)] 25)).alloc (.cells #[.int .u64 (B : Int), .int .i64 (vb : Int)] 25)).alloc (.cells #[.int .u64 (C : Int), .int .i64 (vc : Int)] 25) = W := ⟨_, rfl⟩
  rw [hW] at hA3 hB3 hC3 hb3
  simp only [World.size_alloc] at hB3 hC3
  have hA8 : A < 256 := by omega
  have hB8 : B < 256 := by omega
  have hC8 : C < 256 := by omega
  obtain ⟨p, hp⟩ : ∃ p, belowB A va B vb = p := ⟨_, rfl⟩
  obtain ⟨q, hq⟩ : ∃ q, belowB B vb A va = q := ⟨_, rfl⟩
  obtain ⟨r, hr⟩ : ∃ r, belowB B vb C vc = r := ⟨_, rfl⟩
  obtain ⟨s, hs⟩ : ∃ s, belowB A va C vc = s := ⟨_, rfl⟩
  obtain ⟨t, ht⟩ : ∃ t, belowB C vc A va = t := ⟨_, rfl⟩
  obtain ⟨u, hu⟩ : ∃ u, belowB C vc B vb = u := ⟨_, rfl⟩
  have F1 := Lib.hid (show Imp2 p q (eqLab (A : Int) (va : Int) (B : Int) (vb : Int) = true) from fun h h' => by
    obtain ⟨rfl, e⟩ := bl_anti (hp.trans h) (hq.trans h')
    rw [e]; exact eqLab_same _ _)
  have F2 := Lib.hid (show Imp2 p r (s = true) from fun h h' => hs.symm.trans (bl_trans (hp.trans h) (hr.trans h')))
  have FP := Lib.hid hp
  have FQ := Lib.hid hq
  have FR := Lib.hid hr
  have FS := Lib.hid hs
  have FT := Lib.hid ht
  have FU := Lib.hid hu
  have FAA := Lib.hid (bl_refl A va)
  have GAJ := Lib.hid (bl_join1 A B va vb)
  have GBJ := Lib.hid (bl_join2 A B va vb)
  have GIA := Lib.hid (bl_meet1 A B va vb)
  have GIB := Lib.hid (bl_meet2 A B va vb)
  have GJC := Lib.hid (show Imp2 s r (belowB (A ||| B) (max (va : Int) vb) C vc = true) from fun h h' => bl_least (hs.trans h) (hr.trans h'))
  have GCI := Lib.hid (show Imp2 t u (belowB C vc (A &&& B) (min (va : Int) vb) = true) from fun h h' => bl_great (ht.trans h) (hu.trans h'))
  have J1 := Lib.hid (show B ||| A = A ||| B ∧ max (vb : Int) va = max (va : Int) vb from ⟨Nat.or_comm _ _, by omega⟩)
  have J2 := Lib.hid (show B &&& A = A &&& B ∧ min (vb : Int) va = min (va : Int) vb from ⟨Nat.and_comm _ _, by omega⟩)
  have J3 := Lib.hid (show A ||| (B ||| C) = (A ||| B) ||| C ∧ max (va : Int) (max (vb : Int) vc) = max (max (va : Int) vb) vc from ⟨(Nat.or_assoc _ _ _).symm, by omega⟩)
  have J4 := Lib.hid (show A ||| (A &&& B) = A ∧ max (va : Int) (min (va : Int) vb) = va from ⟨or_and A B, by omega⟩)
  have J5 := Lib.hid (show A &&& (A ||| B) = A ∧ min (va : Int) (max (va : Int) vb) = va from ⟨and_or A B, by omega⟩)
  have J6 := Lib.hid (show eqLab ((A ||| B : Nat) : Int) (max (va : Int) vb) (B : Int) (vb : Int) = p from (bl_iff A B va vb).trans hp)
  have hJ8 := or_256 hA8 hB8
  have hI8 := and_256 B hA8
  have JJ := Lib.hid (show A ||| B = A ||| B from rfl)
  have JI := Lib.hid (show A &&& B = A &&& B from rfl)
  clear hp hq hr hs ht hu
  obtain ⟨J, hJ⟩ : ∃ J, A ||| B = J := ⟨_, rfl⟩
  obtain ⟨I, hI⟩ : ∃ I, A &&& B = I := ⟨_, rfl⟩
  obtain ⟨mj, hmj⟩ : ∃ mj, max (va : Int) (vb : Int) = mj := ⟨_, rfl⟩
  obtain ⟨mi, hmi⟩ : ∃ mi, min (va : Int) (vb : Int) = mi := ⟨_, rfl⟩
  rw [hJ, hmj] at GAJ GBJ GJC J1 J3 J5 J6
  rw [hJ] at hJ8
  rw [hI] at hI8
  rw [hI, hmi] at GIA GIB GCI J2 J4
  have HJ := Lib.hid hJ
  have HI := Lib.hid hI
  have HMJ := Lib.hid hmj
  have HMI := Lib.hid hmi
  clear JJ JI hJ hI hmj hmi
  obtain ⟨a0, a1⟩ := cel_of hA3
  obtain ⟨b0, b1⟩ := cel_of hB3
  go_wp2_with fail
  (with_reducible refine (join_q A B J va vb mj _ hA8 hB8 HJ.out HMJ.out).mono ?_)
  rintro e w4 ⟨rfl, hb⟩
  have hA5 := (hA3.below hb hA3.lt).alloc (.cells #[.int .u64 (J : Int), .int .i64 mj] 25)
  have hB5 := (hB3.below hb hB3.lt).alloc (.cells #[.int .u64 (J : Int), .int .i64 mj] 25)
  have hC5 := (hC3.below hb hC3.lt).alloc (.cells #[.int .u64 (J : Int), .int .i64 mj] 25)
  have hJ5 := Blk.new w4 25 #[.int .u64 (J : Int), .int .i64 mj]
  have hb5 := bel_alloc (bel_tr2 hb3 hb) (.cells #[.int .u64 (J : Int), .int .i64 mj] 25)
  obtain ⟨gj, hgj⟩ : ∃ gj, w4.heap.size = gj := ⟨_, rfl⟩
  clear hb a0 a1 b0 b1 hW hA3 hB3 hC3 hb3
  rw [hgj] at hJ5
  obtain ⟨W5, hW5⟩ : ∃ W5, w4.alloc (.cells #[.int .u64 (J : Int), .int .i64 mj] 25) = W5 := ⟨_, rfl⟩
  rw [hW5] at hA5 hB5 hC5 hJ5 hb5
  obtain ⟨a0, a1⟩ := cel_of hA5
  obtain ⟨b0, b1⟩ := cel_of hB5
  go_wp2_with fail
  (with_reducible refine (meet_q A B I va vb mi _ hA8 hB8 HI.out HMI.out).mono ?_)
  rintro e w6 ⟨rfl, hb⟩
  have HK := Lib.hid (show O5 w A B C J I va vb vc mj mi gj w6.heap.size (w6.alloc (.cells #[.int .u64 (I : Int), .int .i64 mi] 25)) from
    ⟨(hA5.below hb hA5.lt).alloc _, (hB5.below hb hB5.lt).alloc _, (hC5.below hb hC5.lt).alloc _, (hJ5.below hb hJ5.lt).alloc _, Blk.new w6 _ _, bel_alloc (bel_tr2 hb5 hb) _⟩)
  obtain ⟨gi, hgi⟩ : ∃ gi, w6.heap.size = gi := ⟨_, rfl⟩
  clear hb a0 a1 b0 b1 hW5 hA5 hB5 hC5 hJ5 hb5 hgj
  rw [hgi] at HK
  obtain ⟨W7, hW7⟩ : ∃ W7, w6.alloc (.cells #[.int .u64 (I : Int), .int .i64 mi] 25) = W7 := ⟨_, rfl⟩
  rw [hW7] at HK
  go_upto_region 6 with fail
  clear hW7 hgi
  go_cut [80] (fun v wx => v = .bool false ∧ O5 w A B C J I va vb vc mj mi gj gi wx)
  case first =>
    as_aux_lemma =>
    obtain ⟨⟨a0, a1⟩, ⟨b0, b1⟩, ⟨c0, c1⟩, ⟨j0, j1⟩, ⟨i0, i1⟩⟩ := HK.out.cells
    go_wp2_with fail
    (with_reducible refine (known8_c _).mono ?_)
    rintro e w3 ⟨rfl, hb⟩
    have HX := Lib.hid (HK.out.below hb)
    clear hb HK a0 a1 b0 b1 c0 c1 j0 j1 i0 i1
    have HK := HX
    clear HX
    obtain ⟨⟨a0, a1⟩, ⟨b0, b1⟩, ⟨c0, c1⟩, ⟨j0, j1⟩, ⟨i0, i1⟩⟩ := HK.out.cells
    go_wp2_with fail
    (with_reducible refine (below_q A A va va true _ (by omega) (by omega) FAA.out).mono ?_)
    rintro e w3 ⟨rfl, hb⟩
    have HX := Lib.hid (HK.out.below hb)
    clear hb HK a0 a1 b0 b1 c0 c1 j0 j1 i0 i1
    have HK := HX
    clear HX
    obtain ⟨⟨a0, a1⟩, ⟨b0, b1⟩, ⟨c0, c1⟩, ⟨j0, j1⟩, ⟨i0, i1⟩⟩ := HK.out.cells
    cases p
    · skip
      go_wp2_with fail
      (with_reducible refine (below_q A B va vb false _ (by omega) (by omega) FP.out).mono ?_)
      rintro e w3 ⟨rfl, hb⟩
      have HX := Lib.hid (HK.out.below hb)
      clear hb HK a0 a1 b0 b1 c0 c1 j0 j1 i0 i1
      have HK := HX
      clear HX
      obtain ⟨⟨a0, a1⟩, ⟨b0, b1⟩, ⟨c0, c1⟩, ⟨j0, j1⟩, ⟨i0, i1⟩⟩ := HK.out.cells
      go_wp2_with fail
      (with_reducible refine (below_q A B va vb false _ (by omega) (by omega) FP.out).mono ?_)
      rintro e w3 ⟨rfl, hb⟩
      have HX := Lib.hid (HK.out.below hb)
      clear hb HK a0 a1 b0 b1 c0 c1 j0 j1 i0 i1
      have HK := HX
      clear HX
      obtain ⟨⟨a0, a1⟩, ⟨b0, b1⟩, ⟨c0, c1⟩, ⟨j0, j1⟩, ⟨i0, i1⟩⟩ := HK.out.cells
      go_wp2_with fail
      go_meet
      case rel => exact ⟨rfl, HK.out⟩
    · skip
      go_wp2_with fail
      (with_reducible refine (below_q A B va vb true _ (by omega) (by omega) FP.out).mono ?_)
      rintro e w3 ⟨rfl, hb⟩
      have HX := Lib.hid (HK.out.below hb)
      clear hb HK a0 a1 b0 b1 c0 c1 j0 j1 i0 i1
      have HK := HX
      clear HX
      obtain ⟨⟨a0, a1⟩, ⟨b0, b1⟩, ⟨c0, c1⟩, ⟨j0, j1⟩, ⟨i0, i1⟩⟩ := HK.out.cells
      cases q
      · skip
        go_wp2_with fail
        (with_reducible refine (below_q B A vb va false _ (by omega) (by omega) FQ.out).mono ?_)
        rintro e w3 ⟨rfl, hb⟩
        have HX := Lib.hid (HK.out.below hb)
        clear hb HK a0 a1 b0 b1 c0 c1 j0 j1 i0 i1
        have HK := HX
        clear HX
        obtain ⟨⟨a0, a1⟩, ⟨b0, b1⟩, ⟨c0, c1⟩, ⟨j0, j1⟩, ⟨i0, i1⟩⟩ := HK.out.cells
        go_wp2_with fail
        (with_reducible refine (below_q A B va vb true _ (by omega) (by omega) FP.out).mono ?_)
        rintro e w3 ⟨rfl, hb⟩
        have HX := Lib.hid (HK.out.below hb)
        clear hb HK a0 a1 b0 b1 c0 c1 j0 j1 i0 i1
        have HK := HX
        clear HX
        obtain ⟨⟨a0, a1⟩, ⟨b0, b1⟩, ⟨c0, c1⟩, ⟨j0, j1⟩, ⟨i0, i1⟩⟩ := HK.out.cells
        cases r
        · skip
          go_wp2_with fail
          (with_reducible refine (below_q B C vb vc false _ (by omega) (by omega) FR.out).mono ?_)
          rintro e w3 ⟨rfl, hb⟩
          have HX := Lib.hid (HK.out.below hb)
          clear hb HK a0 a1 b0 b1 c0 c1 j0 j1 i0 i1
          have HK := HX
          clear HX
          obtain ⟨⟨a0, a1⟩, ⟨b0, b1⟩, ⟨c0, c1⟩, ⟨j0, j1⟩, ⟨i0, i1⟩⟩ := HK.out.cells
          go_wp2_with fail
          go_meet
          case rel => exact ⟨rfl, HK.out⟩
        · obtain rfl : s = true := F2.out.go rfl rfl
          go_wp2_with fail
          (with_reducible refine (below_q B C vb vc true _ (by omega) (by omega) FR.out).mono ?_)
          rintro e w3 ⟨rfl, hb⟩
          have HX := Lib.hid (HK.out.below hb)
          clear hb HK a0 a1 b0 b1 c0 c1 j0 j1 i0 i1
          have HK := HX
          clear HX
          obtain ⟨⟨a0, a1⟩, ⟨b0, b1⟩, ⟨c0, c1⟩, ⟨j0, j1⟩, ⟨i0, i1⟩⟩ := HK.out.cells
          go_wp2_with fail
          (with_reducible refine (below_q A C va vc true _ (by omega) (by omega) FS.out).mono ?_)
          rintro e w3 ⟨rfl, hb⟩
          have HX := Lib.hid (HK.out.below hb)
          clear hb HK a0 a1 b0 b1 c0 c1 j0 j1 i0 i1
          have HK := HX
          clear HX
          obtain ⟨⟨a0, a1⟩, ⟨b0, b1⟩, ⟨c0, c1⟩, ⟨j0, j1⟩, ⟨i0, i1⟩⟩ := HK.out.cells
          go_wp2_with fail
          go_meet
          case rel => exact ⟨rfl, HK.out⟩
      · obtain ⟨e1, e2⟩ := bl_anti FP.out FQ.out
        subst e1
        obtain rfl : va = vb := by omega
        clear e2
        go_wp2_with fail
        (with_reducible refine (below_q A A va va true _ (by omega) (by omega) FQ.out).mono ?_)
        rintro e w3 ⟨rfl, hb⟩
        have HX := Lib.hid (HK.out.below hb)
        clear hb HK a0 a1 b0 b1 c0 c1 j0 j1 i0 i1
        have HK := HX
        clear HX
        obtain ⟨⟨a0, a1⟩, ⟨b0, b1⟩, ⟨c0, c1⟩, ⟨j0, j1⟩, ⟨i0, i1⟩⟩ := HK.out.cells
        go_wp2_with fail
        (with_reducible refine (below_q A A va va true _ (by omega) (by omega) FP.out).mono ?_)
        rintro e w3 ⟨rfl, hb⟩
        have HX := Lib.hid (HK.out.below hb)
        clear hb HK a0 a1 b0 b1 c0 c1 j0 j1 i0 i1
        have HK := HX
        clear HX
        obtain ⟨⟨a0, a1⟩, ⟨b0, b1⟩, ⟨c0, c1⟩, ⟨j0, j1⟩, ⟨i0, i1⟩⟩ := HK.out.cells
        cases r
        · skip
          go_wp2_with fail
          (with_reducible refine (below_q A C va vc false _ (by omega) (by omega) FR.out).mono ?_)
          rintro e w3 ⟨rfl, hb⟩
          have HX := Lib.hid (HK.out.below hb)
          clear hb HK a0 a1 b0 b1 c0 c1 j0 j1 i0 i1
          have HK := HX
          clear HX
          obtain ⟨⟨a0, a1⟩, ⟨b0, b1⟩, ⟨c0, c1⟩, ⟨j0, j1⟩, ⟨i0, i1⟩⟩ := HK.out.cells
          go_wp2_with fail
          go_meet
          case rel => exact ⟨rfl, HK.out⟩
        · obtain rfl : s = true := F2.out.go rfl rfl
          go_wp2_with fail
          (with_reducible refine (below_q A C va vc true _ (by omega) (by omega) FR.out).mono ?_)
          rintro e w3 ⟨rfl, hb⟩
          have HX := Lib.hid (HK.out.below hb)
          clear hb HK a0 a1 b0 b1 c0 c1 j0 j1 i0 i1
          have HK := HX
          clear HX
          obtain ⟨⟨a0, a1⟩, ⟨b0, b1⟩, ⟨c0, c1⟩, ⟨j0, j1⟩, ⟨i0, i1⟩⟩ := HK.out.cells
          go_wp2_with fail
          (with_reducible refine (below_q A C va vc true _ (by omega) (by omega) FS.out).mono ?_)
          rintro e w3 ⟨rfl, hb⟩
          have HX := Lib.hid (HK.out.below hb)
          clear hb HK a0 a1 b0 b1 c0 c1 j0 j1 i0 i1
          have HK := HX
          clear HX
          obtain ⟨⟨a0, a1⟩, ⟨b0, b1⟩, ⟨c0, c1⟩, ⟨j0, j1⟩, ⟨i0, i1⟩⟩ := HK.out.cells
          go_wp2_with fail
          go_meet
          case rel => exact ⟨rfl, HK.out⟩
  case rest =>
    as_aux_lemma =>
    obtain ⟨rfl, hk⟩ := hcut
    obtain ⟨W8, rfl⟩ : ∃ V : World, V = wc := ⟨_, rfl⟩
    clear HK
    have HK := Lib.hid hk
    clear hk
    go_upto_region 8 with fail
    go_cut [134] (fun v wx => v = .bool false ∧ O5 w A B C J I va vb vc mj mi gj gi wx)
    case first =>
      as_aux_lemma =>
      obtain ⟨⟨a0, a1⟩, ⟨b0, b1⟩, ⟨c0, c1⟩, ⟨j0, j1⟩, ⟨i0, i1⟩⟩ := HK.out.cells
      go_wp2_with fail
      (with_reducible refine (below_q A J va mj true _ (by omega) (by omega) GAJ.out).mono ?_)
      rintro e w3 ⟨rfl, hb⟩
      have HX := Lib.hid (HK.out.below hb)
      clear hb HK a0 a1 b0 b1 c0 c1 j0 j1 i0 i1
      have HK := HX
      clear HX
      obtain ⟨⟨a0, a1⟩, ⟨b0, b1⟩, ⟨c0, c1⟩, ⟨j0, j1⟩, ⟨i0, i1⟩⟩ := HK.out.cells
      go_wp2_with fail
      (with_reducible refine (below_q B J vb mj true _ (by omega) (by omega) GBJ.out).mono ?_)
      rintro e w3 ⟨rfl, hb⟩
      have HX := Lib.hid (HK.out.below hb)
      clear hb HK a0 a1 b0 b1 c0 c1 j0 j1 i0 i1
      have HK := HX
      clear HX
      obtain ⟨⟨a0, a1⟩, ⟨b0, b1⟩, ⟨c0, c1⟩, ⟨j0, j1⟩, ⟨i0, i1⟩⟩ := HK.out.cells
      go_wp2_with fail
      (with_reducible refine (below_q I A mi va true _ (by omega) (by omega) GIA.out).mono ?_)
      rintro e w3 ⟨rfl, hb⟩
      have HX := Lib.hid (HK.out.below hb)
      clear hb HK a0 a1 b0 b1 c0 c1 j0 j1 i0 i1
      have HK := HX
      clear HX
      obtain ⟨⟨a0, a1⟩, ⟨b0, b1⟩, ⟨c0, c1⟩, ⟨j0, j1⟩, ⟨i0, i1⟩⟩ := HK.out.cells
      go_wp2_with fail
      (with_reducible refine (below_q I B mi vb true _ (by omega) (by omega) GIB.out).mono ?_)
      rintro e w3 ⟨rfl, hb⟩
      have HX := Lib.hid (HK.out.below hb)
      clear hb HK a0 a1 b0 b1 c0 c1 j0 j1 i0 i1
      have HK := HX
      clear HX
      obtain ⟨⟨a0, a1⟩, ⟨b0, b1⟩, ⟨c0, c1⟩, ⟨j0, j1⟩, ⟨i0, i1⟩⟩ := HK.out.cells
      cases s
      · skip
        go_wp2_with fail
        (with_reducible refine (below_q A C va vc false _ (by omega) (by omega) FS.out).mono ?_)
        rintro e w3 ⟨rfl, hb⟩
        have HX := Lib.hid (HK.out.below hb)
        clear hb HK a0 a1 b0 b1 c0 c1 j0 j1 i0 i1
        have HK := HX
        clear HX
        obtain ⟨⟨a0, a1⟩, ⟨b0, b1⟩, ⟨c0, c1⟩, ⟨j0, j1⟩, ⟨i0, i1⟩⟩ := HK.out.cells
        cases t
        · skip
          go_wp2_with fail
          (with_reducible refine (below_q C A vc va false _ (by omega) (by omega) FT.out).mono ?_)
          rintro e w3 ⟨rfl, hb⟩
          have HX := Lib.hid (HK.out.below hb)
          clear hb HK a0 a1 b0 b1 c0 c1 j0 j1 i0 i1
          have HK := HX
          clear HX
          obtain ⟨⟨a0, a1⟩, ⟨b0, b1⟩, ⟨c0, c1⟩, ⟨j0, j1⟩, ⟨i0, i1⟩⟩ := HK.out.cells
          go_wp2_with fail
          go_meet
          case rel => exact ⟨rfl, HK.out⟩
        · skip
          go_wp2_with fail
          (with_reducible refine (below_q C A vc va true _ (by omega) (by omega) FT.out).mono ?_)
          rintro e w3 ⟨rfl, hb⟩
          have HX := Lib.hid (HK.out.below hb)
          clear hb HK a0 a1 b0 b1 c0 c1 j0 j1 i0 i1
          have HK := HX
          clear HX
          obtain ⟨⟨a0, a1⟩, ⟨b0, b1⟩, ⟨c0, c1⟩, ⟨j0, j1⟩, ⟨i0, i1⟩⟩ := HK.out.cells
          cases u
          · skip
            go_wp2_with fail
            (with_reducible refine (below_q C B vc vb false _ (by omega) (by omega) FU.out).mono ?_)
            rintro e w3 ⟨rfl, hb⟩
            have HX := Lib.hid (HK.out.below hb)
            clear hb HK a0 a1 b0 b1 c0 c1 j0 j1 i0 i1
            have HK := HX
            clear HX
            obtain ⟨⟨a0, a1⟩, ⟨b0, b1⟩, ⟨c0, c1⟩, ⟨j0, j1⟩, ⟨i0, i1⟩⟩ := HK.out.cells
            go_wp2_with fail
            go_meet
            case rel => exact ⟨rfl, HK.out⟩
          · skip
            go_wp2_with fail
            (with_reducible refine (below_q C B vc vb true _ (by omega) (by omega) FU.out).mono ?_)
            rintro e w3 ⟨rfl, hb⟩
            have HX := Lib.hid (HK.out.below hb)
            clear hb HK a0 a1 b0 b1 c0 c1 j0 j1 i0 i1
            have HK := HX
            clear HX
            obtain ⟨⟨a0, a1⟩, ⟨b0, b1⟩, ⟨c0, c1⟩, ⟨j0, j1⟩, ⟨i0, i1⟩⟩ := HK.out.cells
            go_wp2_with fail
            (with_reducible refine (below_q C I vc mi true _ (by omega) (by omega) (GCI.out.go rfl rfl)).mono ?_)
            rintro e w3 ⟨rfl, hb⟩
            have HX := Lib.hid (HK.out.below hb)
            clear hb HK a0 a1 b0 b1 c0 c1 j0 j1 i0 i1
            have HK := HX
            clear HX
            obtain ⟨⟨a0, a1⟩, ⟨b0, b1⟩, ⟨c0, c1⟩, ⟨j0, j1⟩, ⟨i0, i1⟩⟩ := HK.out.cells
            go_wp2_with fail
            go_meet
            case rel => exact ⟨rfl, HK.out⟩
      · skip
        go_wp2_with fail
        (with_reducible refine (below_q A C va vc true _ (by omega) (by omega) FS.out).mono ?_)
        rintro e w3 ⟨rfl, hb⟩
        have HX := Lib.hid (HK.out.below hb)
        clear hb HK a0 a1 b0 b1 c0 c1 j0 j1 i0 i1
        have HK := HX
        clear HX
        obtain ⟨⟨a0, a1⟩, ⟨b0, b1⟩, ⟨c0, c1⟩, ⟨j0, j1⟩, ⟨i0, i1⟩⟩ := HK.out.cells
        cases r
        · skip
          go_wp2_with fail
          (with_reducible refine (below_q B C vb vc false _ (by omega) (by omega) FR.out).mono ?_)
          rintro e w3 ⟨rfl, hb⟩
          have HX := Lib.hid (HK.out.below hb)
          clear hb HK a0 a1 b0 b1 c0 c1 j0 j1 i0 i1
          have HK := HX
          clear HX
          obtain ⟨⟨a0, a1⟩, ⟨b0, b1⟩, ⟨c0, c1⟩, ⟨j0, j1⟩, ⟨i0, i1⟩⟩ := HK.out.cells
          cases t
          · skip
            go_wp2_with fail
            (with_reducible refine (below_q C A vc va false _ (by omega) (by omega) FT.out).mono ?_)
            rintro e w3 ⟨rfl, hb⟩
            have HX := Lib.hid (HK.out.below hb)
            clear hb HK a0 a1 b0 b1 c0 c1 j0 j1 i0 i1
            have HK := HX
            clear HX
            obtain ⟨⟨a0, a1⟩, ⟨b0, b1⟩, ⟨c0, c1⟩, ⟨j0, j1⟩, ⟨i0, i1⟩⟩ := HK.out.cells
            go_wp2_with fail
            go_meet
            case rel => exact ⟨rfl, HK.out⟩
          · skip
            go_wp2_with fail
            (with_reducible refine (below_q C A vc va true _ (by omega) (by omega) FT.out).mono ?_)
            rintro e w3 ⟨rfl, hb⟩
            have HX := Lib.hid (HK.out.below hb)
            clear hb HK a0 a1 b0 b1 c0 c1 j0 j1 i0 i1
            have HK := HX
            clear HX
            obtain ⟨⟨a0, a1⟩, ⟨b0, b1⟩, ⟨c0, c1⟩, ⟨j0, j1⟩, ⟨i0, i1⟩⟩ := HK.out.cells
            cases u
            · skip
              go_wp2_with fail
              (with_reducible refine (below_q C B vc vb false _ (by omega) (by omega) FU.out).mono ?_)
              rintro e w3 ⟨rfl, hb⟩
              have HX := Lib.hid (HK.out.below hb)
              clear hb HK a0 a1 b0 b1 c0 c1 j0 j1 i0 i1
              have HK := HX
              clear HX
              obtain ⟨⟨a0, a1⟩, ⟨b0, b1⟩, ⟨c0, c1⟩, ⟨j0, j1⟩, ⟨i0, i1⟩⟩ := HK.out.cells
              go_wp2_with fail
              go_meet
              case rel => exact ⟨rfl, HK.out⟩
            · skip
              go_wp2_with fail
              (with_reducible refine (below_q C B vc vb true _ (by omega) (by omega) FU.out).mono ?_)
              rintro e w3 ⟨rfl, hb⟩
              have HX := Lib.hid (HK.out.below hb)
              clear hb HK a0 a1 b0 b1 c0 c1 j0 j1 i0 i1
              have HK := HX
              clear HX
              obtain ⟨⟨a0, a1⟩, ⟨b0, b1⟩, ⟨c0, c1⟩, ⟨j0, j1⟩, ⟨i0, i1⟩⟩ := HK.out.cells
              go_wp2_with fail
              (with_reducible refine (below_q C I vc mi true _ (by omega) (by omega) (GCI.out.go rfl rfl)).mono ?_)
              rintro e w3 ⟨rfl, hb⟩
              have HX := Lib.hid (HK.out.below hb)
              clear hb HK a0 a1 b0 b1 c0 c1 j0 j1 i0 i1
              have HK := HX
              clear HX
              obtain ⟨⟨a0, a1⟩, ⟨b0, b1⟩, ⟨c0, c1⟩, ⟨j0, j1⟩, ⟨i0, i1⟩⟩ := HK.out.cells
              go_wp2_with fail
              go_meet
              case rel => exact ⟨rfl, HK.out⟩
        · skip
          go_wp2_with fail
          (with_reducible refine (below_q B C vb vc true _ (by omega) (by omega) FR.out).mono ?_)
          rintro e w3 ⟨rfl, hb⟩
          have HX := Lib.hid (HK.out.below hb)
          clear hb HK a0 a1 b0 b1 c0 c1 j0 j1 i0 i1
          have HK := HX
          clear HX
          obtain ⟨⟨a0, a1⟩, ⟨b0, b1⟩, ⟨c0, c1⟩, ⟨j0, j1⟩, ⟨i0, i1⟩⟩ := HK.out.cells
          go_wp2_with fail
          (with_reducible refine (below_q J C mj vc true _ (by omega) (by omega) (GJC.out.go rfl rfl)).mono ?_)
          rintro e w3 ⟨rfl, hb⟩
          have HX := Lib.hid (HK.out.below hb)
          clear hb HK a0 a1 b0 b1 c0 c1 j0 j1 i0 i1
          have HK := HX
          clear HX
          obtain ⟨⟨a0, a1⟩, ⟨b0, b1⟩, ⟨c0, c1⟩, ⟨j0, j1⟩, ⟨i0, i1⟩⟩ := HK.out.cells
          cases t
          · skip
            go_wp2_with fail
            (with_reducible refine (below_q C A vc va false _ (by omega) (by omega) FT.out).mono ?_)
            rintro e w3 ⟨rfl, hb⟩
            have HX := Lib.hid (HK.out.below hb)
            clear hb HK a0 a1 b0 b1 c0 c1 j0 j1 i0 i1
            have HK := HX
            clear HX
            obtain ⟨⟨a0, a1⟩, ⟨b0, b1⟩, ⟨c0, c1⟩, ⟨j0, j1⟩, ⟨i0, i1⟩⟩ := HK.out.cells
            go_wp2_with fail
            go_meet
            case rel => exact ⟨rfl, HK.out⟩
          · skip
            go_wp2_with fail
            (with_reducible refine (below_q C A vc va true _ (by omega) (by omega) FT.out).mono ?_)
            rintro e w3 ⟨rfl, hb⟩
            have HX := Lib.hid (HK.out.below hb)
            clear hb HK a0 a1 b0 b1 c0 c1 j0 j1 i0 i1
            have HK := HX
            clear HX
            obtain ⟨⟨a0, a1⟩, ⟨b0, b1⟩, ⟨c0, c1⟩, ⟨j0, j1⟩, ⟨i0, i1⟩⟩ := HK.out.cells
            cases u
            · skip
              go_wp2_with fail
              (with_reducible refine (below_q C B vc vb false _ (by omega) (by omega) FU.out).mono ?_)
              rintro e w3 ⟨rfl, hb⟩
              have HX := Lib.hid (HK.out.below hb)
              clear hb HK a0 a1 b0 b1 c0 c1 j0 j1 i0 i1
              have HK := HX
              clear HX
              obtain ⟨⟨a0, a1⟩, ⟨b0, b1⟩, ⟨c0, c1⟩, ⟨j0, j1⟩, ⟨i0, i1⟩⟩ := HK.out.cells
              go_wp2_with fail
              go_meet
              case rel => exact ⟨rfl, HK.out⟩
            · skip
              go_wp2_with fail
              (with_reducible refine (below_q C B vc vb true _ (by omega) (by omega) FU.out).mono ?_)
              rintro e w3 ⟨rfl, hb⟩
              have HX := Lib.hid (HK.out.below hb)
              clear hb HK a0 a1 b0 b1 c0 c1 j0 j1 i0 i1
              have HK := HX
              clear HX
              obtain ⟨⟨a0, a1⟩, ⟨b0, b1⟩, ⟨c0, c1⟩, ⟨j0, j1⟩, ⟨i0, i1⟩⟩ := HK.out.cells
              go_wp2_with fail
              (with_reducible refine (below_q C I vc mi true _ (by omega) (by omega) (GCI.out.go rfl rfl)).mono ?_)
              rintro e w3 ⟨rfl, hb⟩
              have HX := Lib.hid (HK.out.below hb)
              clear hb HK a0 a1 b0 b1 c0 c1 j0 j1 i0 i1
              have HK := HX
              clear HX
              obtain ⟨⟨a0, a1⟩, ⟨b0, b1⟩, ⟨c0, c1⟩, ⟨j0, j1⟩, ⟨i0, i1⟩⟩ := HK.out.cells
              go_wp2_with fail
              go_meet
              case rel => exact ⟨rfl, HK.out⟩
    case rest =>
      as_aux_lemma =>
      obtain ⟨rfl, hk⟩ := hcut
      obtain ⟨W9, rfl⟩ : ∃ V : World, V = wc := ⟨_, rfl⟩
      clear HK
      have HK := Lib.hid hk
      clear hk
      go_upto_region 10 with fail
      have hK8 := or_256 hB8 hC8
      have hj3 := J3.out
      obtain ⟨K, hK⟩ : ∃ K, B ||| C = K := ⟨_, rfl⟩
      obtain ⟨mk, hmk⟩ : ∃ mk, max (vb : Int) (vc : Int) = mk := ⟨_, rfl⟩
      obtain ⟨L, hL⟩ : ∃ L, J ||| C = L := ⟨_, rfl⟩
      obtain ⟨ml, hml⟩ : ∃ ml, max mj (vc : Int) = ml := ⟨_, rfl⟩
      rw [hK] at hK8
      rw [hK, hmk, hL, hml] at hj3
      have HK3 := Lib.hid hj3
      have HKK := Lib.hid hK
      have HMK := Lib.hid hmk
      have HLL := Lib.hid hL
      have HML := Lib.hid hml
      clear hj3 hK hmk hL hml J3
      have HKd := Lib.hid HK.out.drew
      refine wp_region_det (S := O5 w A B C J I va vb vc mj mi gj gi) (by kernel_rfl) HKd.out ?_
      refine det_take (v := ?_) (i := 0) (fuel := 46) (by simp; rfl) (by kernel_rfl) (by kernel_rfl) (by kernel_rfl) (Or.inl ⟨by rfl, fun w' hS => Or.inl ⟨w', ?_, hS⟩⟩) ?_
      rotate_left
      · obtain ⟨⟨a0, a1⟩, ⟨b0, b1⟩, ⟨c0, c1⟩, ⟨j0, j1⟩, ⟨i0, i1⟩⟩ := hS.cells
        go_simp
        all_goals with_reducible rfl
      simp only [Act.put, List.setIfInBounds_toArray, List.set_cons_zero, List.set_cons_succ]
      refine det_take (v := ?_) (i := 1) (fuel := 45) (by simp; rfl) (by kernel_rfl) (by kernel_rfl) (by kernel_rfl) (Or.inl ⟨by rfl, fun w' hS => Or.inl ⟨w', ?_, hS⟩⟩) ?_
      rotate_left
      · obtain ⟨⟨a0, a1⟩, ⟨b0, b1⟩, ⟨c0, c1⟩, ⟨j0, j1⟩, ⟨i0, i1⟩⟩ := hS.cells
        go_simp
        all_goals with_reducible rfl
      simp only [Act.put, List.setIfInBounds_toArray, List.set_cons_zero, List.set_cons_succ]
      refine det_take (v := ?_) (i := 2) (fuel := 44) (by simp; rfl) (by kernel_rfl) (by kernel_rfl) (by kernel_rfl) (Or.inl ⟨by rfl, fun w' hS => Or.inl ⟨w', ?_, hS⟩⟩) ?_
      rotate_left
      · obtain ⟨⟨a0, a1⟩, ⟨b0, b1⟩, ⟨c0, c1⟩, ⟨j0, j1⟩, ⟨i0, i1⟩⟩ := hS.cells
        go_simp
        all_goals with_reducible rfl
      simp only [Act.put, List.setIfInBounds_toArray, List.set_cons_zero, List.set_cons_succ]
      refine det_take (v := ?_) (i := 3) (fuel := 43) (by simp; rfl) (by kernel_rfl) (by kernel_rfl) (by kernel_rfl) (Or.inl ⟨by rfl, fun w' hS => Or.inr ⟨11, #[.agg #[.int .u64 (B : Int), .int .i64 (vb : Int)], .agg #[.int .u64 (A : Int), .int .i64 (va : Int)]], w', ?_, ?_⟩⟩) ?_
      rotate_left
      · go_simp
        all_goals with_reducible rfl
      · exact (join_q B A J vb va mj w' hB8 hA8 J1.out.1 J1.out.2).mono fun e w2 h => ⟨by rw [h.1], hS.below h.2⟩
      simp only [Act.put, List.setIfInBounds_toArray, List.set_cons_zero, List.set_cons_succ]
      refine det_take (v := ?_) (i := 4) (fuel := 42) (by simp; rfl) (by kernel_rfl) (by kernel_rfl) (by kernel_rfl) (Or.inl ⟨by rfl, fun w' hS => Or.inl ⟨w', ?_, hS⟩⟩) ?_
      rotate_left
      · go_simp
        all_goals with_reducible rfl
      simp only [Act.put, List.setIfInBounds_toArray, List.set_cons_zero, List.set_cons_succ]
      refine det_take (v := ?_) (i := 5) (fuel := 41) (by simp; rfl) (by kernel_rfl) (by kernel_rfl) (by kernel_rfl) (Or.inl ⟨by rfl, fun w' hS => Or.inl ⟨w', ?_, hS⟩⟩) ?_
      rotate_left
      · go_simp
        all_goals with_reducible rfl
      simp only [Act.put, List.setIfInBounds_toArray, List.set_cons_zero, List.set_cons_succ]
      refine det_take (v := ?_) (i := 6) (fuel := 40) (by simp; rfl) (by kernel_rfl) (by kernel_rfl) (by kernel_rfl) (Or.inl ⟨by rfl, fun w' hS => Or.inl ⟨w', ?_, hS⟩⟩) ?_
      rotate_left
      · obtain ⟨⟨a0, a1⟩, ⟨b0, b1⟩, ⟨c0, c1⟩, ⟨j0, j1⟩, ⟨i0, i1⟩⟩ := hS.cells
        go_simp
        all_goals with_reducible rfl
      simp only [Act.put, List.setIfInBounds_toArray, List.set_cons_zero, List.set_cons_succ]
      refine det_take (v := ?_) (i := 7) (fuel := 39) (by simp; rfl) (by kernel_rfl) (by kernel_rfl) (by kernel_rfl) (Or.inl ⟨by rfl, fun w' hS => Or.inl ⟨w', ?_, hS⟩⟩) ?_
      rotate_left
      · obtain ⟨⟨a0, a1⟩, ⟨b0, b1⟩, ⟨c0, c1⟩, ⟨j0, j1⟩, ⟨i0, i1⟩⟩ := hS.cells
        go_simp
        all_goals with_reducible rfl
      simp only [Act.put, List.setIfInBounds_toArray, List.set_cons_zero, List.set_cons_succ]
      refine det_take (v := ?_) (i := 8) (fuel := 38) (by simp; rfl) (by kernel_rfl) (by kernel_rfl) (by kernel_rfl) (Or.inl ⟨by rfl, fun w' hS => Or.inl ⟨w', ?_, hS⟩⟩) ?_
      rotate_left
      · obtain ⟨⟨a0, a1⟩, ⟨b0, b1⟩, ⟨c0, c1⟩, ⟨j0, j1⟩, ⟨i0, i1⟩⟩ := hS.cells
        go_simp
        all_goals with_reducible rfl
      simp only [Act.put, List.setIfInBounds_toArray, List.set_cons_zero, List.set_cons_succ]
      refine det_take (v := ?_) (i := 9) (fuel := 37) (by simp; rfl) (by kernel_rfl) (by kernel_rfl) (by kernel_rfl) (Or.inl ⟨by rfl, fun w' hS => Or.inr ⟨12, #[.agg #[.int .u64 (B : Int), .int .i64 (vb : Int)], .agg #[.int .u64 (A : Int), .int .i64 (va : Int)]], w', ?_, ?_⟩⟩) ?_
      rotate_left
      · go_simp
        all_goals with_reducible rfl
      · exact (meet_q B A I vb va mi w' hB8 hA8 J2.out.1 J2.out.2).mono fun e w2 h => ⟨by rw [h.1], hS.below h.2⟩
      simp only [Act.put, List.setIfInBounds_toArray, List.set_cons_zero, List.set_cons_succ]
      refine det_take (v := ?_) (i := 10) (fuel := 36) (by simp; rfl) (by kernel_rfl) (by kernel_rfl) (by kernel_rfl) (Or.inl ⟨by rfl, fun w' hS => Or.inl ⟨w', ?_, hS⟩⟩) ?_
      rotate_left
      · go_simp
        all_goals with_reducible rfl
      simp only [Act.put, List.setIfInBounds_toArray, List.set_cons_zero, List.set_cons_succ]
      refine det_take (v := ?_) (i := 11) (fuel := 35) (by simp; rfl) (by kernel_rfl) (by kernel_rfl) (by kernel_rfl) (Or.inl ⟨by rfl, fun w' hS => Or.inl ⟨w', ?_, hS⟩⟩) ?_
      rotate_left
      · go_simp
        all_goals with_reducible rfl
      simp only [Act.put, List.setIfInBounds_toArray, List.set_cons_zero, List.set_cons_succ]
      refine det_take (v := ?_) (i := 12) (fuel := 34) (by simp; rfl) (by kernel_rfl) (by kernel_rfl) (by kernel_rfl) (Or.inl ⟨by rfl, fun w' hS => Or.inl ⟨w', ?_, hS⟩⟩) ?_
      rotate_left
      · go_simp
        all_goals with_reducible rfl
      simp only [Act.put, List.setIfInBounds_toArray, List.set_cons_zero, List.set_cons_succ]
      refine det_take (v := ?_) (i := 13) (fuel := 33) (by simp; rfl) (by kernel_rfl) (by kernel_rfl) (by kernel_rfl) (Or.inl ⟨by rfl, fun w' hS => Or.inl ⟨w', ?_, hS⟩⟩) ?_
      rotate_left
      · obtain ⟨⟨a0, a1⟩, ⟨b0, b1⟩, ⟨c0, c1⟩, ⟨j0, j1⟩, ⟨i0, i1⟩⟩ := hS.cells
        go_simp
        all_goals with_reducible rfl
      simp only [Act.put, List.setIfInBounds_toArray, List.set_cons_zero, List.set_cons_succ]
      refine det_take (v := ?_) (i := 14) (fuel := 32) (by simp; rfl) (by kernel_rfl) (by kernel_rfl) (by kernel_rfl) (Or.inl ⟨by rfl, fun w' hS => Or.inl ⟨w', ?_, hS⟩⟩) ?_
      rotate_left
      · obtain ⟨⟨a0, a1⟩, ⟨b0, b1⟩, ⟨c0, c1⟩, ⟨j0, j1⟩, ⟨i0, i1⟩⟩ := hS.cells
        go_simp
        all_goals with_reducible rfl
      simp only [Act.put, List.setIfInBounds_toArray, List.set_cons_zero, List.set_cons_succ]
      refine det_take (v := ?_) (i := 15) (fuel := 31) (by simp; rfl) (by kernel_rfl) (by kernel_rfl) (by kernel_rfl) (Or.inl ⟨by rfl, fun w' hS => Or.inl ⟨w', ?_, hS⟩⟩) ?_
      rotate_left
      · obtain ⟨⟨a0, a1⟩, ⟨b0, b1⟩, ⟨c0, c1⟩, ⟨j0, j1⟩, ⟨i0, i1⟩⟩ := hS.cells
        go_simp
        all_goals with_reducible rfl
      simp only [Act.put, List.setIfInBounds_toArray, List.set_cons_zero, List.set_cons_succ]
      refine det_take (v := ?_) (i := 16) (fuel := 30) (by simp; rfl) (by kernel_rfl) (by kernel_rfl) (by kernel_rfl) (Or.inl ⟨by rfl, fun w' hS => Or.inr ⟨11, #[.agg #[.int .u64 (B : Int), .int .i64 (vb : Int)], .agg #[.int .u64 (C : Int), .int .i64 (vc : Int)]], w', ?_, ?_⟩⟩) ?_
      rotate_left
      · go_simp
        all_goals with_reducible rfl
      · exact (join_q B C K vb vc mk w' hB8 hC8 HKK.out HMK.out).mono fun e w2 h => ⟨by rw [h.1], hS.below h.2⟩
      simp only [Act.put, List.setIfInBounds_toArray, List.set_cons_zero, List.set_cons_succ]
      refine det_take (v := ?_) (i := 17) (fuel := 29) (by simp; rfl) (by kernel_rfl) (by kernel_rfl) (by kernel_rfl) (Or.inl ⟨by rfl, fun w' hS => Or.inr ⟨11, #[.agg #[.int .u64 (A : Int), .int .i64 (va : Int)], .agg #[.int .u64 (K : Int), .int .i64 mk]], w', ?_, ?_⟩⟩) ?_
      rotate_left
      · go_simp
        all_goals with_reducible rfl
      · exact (join_q A K L va mk ml w' hA8 hK8 HK3.out.1 HK3.out.2).mono fun e w2 h => ⟨by rw [h.1], hS.below h.2⟩
      simp only [Act.put, List.setIfInBounds_toArray, List.set_cons_zero, List.set_cons_succ]
      refine det_take (v := ?_) (i := 18) (fuel := 28) (by simp; rfl) (by kernel_rfl) (by kernel_rfl) (by kernel_rfl) (Or.inl ⟨by rfl, fun w' hS => Or.inl ⟨w', ?_, hS⟩⟩) ?_
      rotate_left
      · obtain ⟨⟨a0, a1⟩, ⟨b0, b1⟩, ⟨c0, c1⟩, ⟨j0, j1⟩, ⟨i0, i1⟩⟩ := hS.cells
        go_simp
        all_goals with_reducible rfl
      simp only [Act.put, List.setIfInBounds_toArray, List.set_cons_zero, List.set_cons_succ]
      refine det_take (v := ?_) (i := 19) (fuel := 27) (by simp; rfl) (by kernel_rfl) (by kernel_rfl) (by kernel_rfl) (Or.inl ⟨by rfl, fun w' hS => Or.inl ⟨w', ?_, hS⟩⟩) ?_
      rotate_left
      · obtain ⟨⟨a0, a1⟩, ⟨b0, b1⟩, ⟨c0, c1⟩, ⟨j0, j1⟩, ⟨i0, i1⟩⟩ := hS.cells
        go_simp
        all_goals with_reducible rfl
      simp only [Act.put, List.setIfInBounds_toArray, List.set_cons_zero, List.set_cons_succ]
      refine det_take (v := ?_) (i := 20) (fuel := 26) (by simp; rfl) (by kernel_rfl) (by kernel_rfl) (by kernel_rfl) (Or.inl ⟨by rfl, fun w' hS => Or.inr ⟨11, #[.agg #[.int .u64 (J : Int), .int .i64 mj], .agg #[.int .u64 (C : Int), .int .i64 (vc : Int)]], w', ?_, ?_⟩⟩) ?_
      rotate_left
      · go_simp
        all_goals with_reducible rfl
      · exact (join_q J C L mj vc ml w' hJ8 hC8 HLL.out HML.out).mono fun e w2 h => ⟨by rw [h.1], hS.below h.2⟩
      simp only [Act.put, List.setIfInBounds_toArray, List.set_cons_zero, List.set_cons_succ]
      refine det_take (v := ?_) (i := 21) (fuel := 25) (by simp; rfl) (by kernel_rfl) (by kernel_rfl) (by kernel_rfl) (Or.inl ⟨by rfl, fun w' hS => Or.inl ⟨w', ?_, hS⟩⟩) ?_
      rotate_left
      · go_simp
        all_goals with_reducible rfl
      simp only [Act.put, List.setIfInBounds_toArray, List.set_cons_zero, List.set_cons_succ]
      refine det_take (v := ?_) (i := 22) (fuel := 24) (by simp; rfl) (by kernel_rfl) (by kernel_rfl) (by kernel_rfl) (Or.inl ⟨by rfl, fun w' hS => Or.inl ⟨w', ?_, hS⟩⟩) ?_
      rotate_left
      · go_simp
        all_goals with_reducible rfl
      simp only [Act.put, List.setIfInBounds_toArray, List.set_cons_zero, List.set_cons_succ]
      refine det_take (v := ?_) (i := 23) (fuel := 23) (by simp; rfl) (by kernel_rfl) (by kernel_rfl) (by kernel_rfl) (Or.inl ⟨by rfl, fun w' hS => Or.inl ⟨w', ?_, hS⟩⟩) ?_
      rotate_left
      · go_simp
        all_goals with_reducible rfl
      simp only [Act.put, List.setIfInBounds_toArray, List.set_cons_zero, List.set_cons_succ]
      refine det_take (v := ?_) (i := 24) (fuel := 22) (by simp; rfl) (by kernel_rfl) (by kernel_rfl) (by kernel_rfl) (Or.inl ⟨by rfl, fun w' hS => Or.inl ⟨w', ?_, hS⟩⟩) ?_
      rotate_left
      · obtain ⟨⟨a0, a1⟩, ⟨b0, b1⟩, ⟨c0, c1⟩, ⟨j0, j1⟩, ⟨i0, i1⟩⟩ := hS.cells
        go_simp
        all_goals with_reducible rfl
      simp only [Act.put, List.setIfInBounds_toArray, List.set_cons_zero, List.set_cons_succ]
      refine det_take (v := ?_) (i := 25) (fuel := 21) (by simp; rfl) (by kernel_rfl) (by kernel_rfl) (by kernel_rfl) (Or.inl ⟨by rfl, fun w' hS => Or.inl ⟨w', ?_, hS⟩⟩) ?_
      rotate_left
      · obtain ⟨⟨a0, a1⟩, ⟨b0, b1⟩, ⟨c0, c1⟩, ⟨j0, j1⟩, ⟨i0, i1⟩⟩ := hS.cells
        go_simp
        all_goals with_reducible rfl
      simp only [Act.put, List.setIfInBounds_toArray, List.set_cons_zero, List.set_cons_succ]
      refine det_take (v := ?_) (i := 26) (fuel := 20) (by simp; rfl) (by kernel_rfl) (by kernel_rfl) (by kernel_rfl) (Or.inl ⟨by rfl, fun w' hS => Or.inr ⟨11, #[.agg #[.int .u64 (A : Int), .int .i64 (va : Int)], .agg #[.int .u64 (I : Int), .int .i64 mi]], w', ?_, ?_⟩⟩) ?_
      rotate_left
      · go_simp
        all_goals with_reducible rfl
      · exact (join_q A I A va mi va w' hA8 hI8 J4.out.1 J4.out.2).mono fun e w2 h => ⟨by rw [h.1], hS.below h.2⟩
      simp only [Act.put, List.setIfInBounds_toArray, List.set_cons_zero, List.set_cons_succ]
      refine det_take (v := ?_) (i := 27) (fuel := 19) (by simp; rfl) (by kernel_rfl) (by kernel_rfl) (by kernel_rfl) (Or.inl ⟨by rfl, fun w' hS => Or.inl ⟨w', ?_, hS⟩⟩) ?_
      rotate_left
      · obtain ⟨⟨a0, a1⟩, ⟨b0, b1⟩, ⟨c0, c1⟩, ⟨j0, j1⟩, ⟨i0, i1⟩⟩ := hS.cells
        go_simp
        all_goals with_reducible rfl
      simp only [Act.put, List.setIfInBounds_toArray, List.set_cons_zero, List.set_cons_succ]
      refine det_take (v := ?_) (i := 28) (fuel := 18) (by simp; rfl) (by kernel_rfl) (by kernel_rfl) (by kernel_rfl) (Or.inl ⟨by rfl, fun w' hS => Or.inl ⟨w', ?_, hS⟩⟩) ?_
      rotate_left
      · go_simp
        all_goals with_reducible rfl
      simp only [Act.put, List.setIfInBounds_toArray, List.set_cons_zero, List.set_cons_succ]
      refine det_take (v := ?_) (i := 29) (fuel := 17) (by simp; rfl) (by kernel_rfl) (by kernel_rfl) (by kernel_rfl) (Or.inl ⟨by rfl, fun w' hS => Or.inl ⟨w', ?_, hS⟩⟩) ?_
      rotate_left
      · go_simp
        all_goals with_reducible rfl
      simp only [Act.put, List.setIfInBounds_toArray, List.set_cons_zero, List.set_cons_succ]
      refine det_take (v := ?_) (i := 30) (fuel := 16) (by simp; rfl) (by kernel_rfl) (by kernel_rfl) (by kernel_rfl) (Or.inl ⟨by rfl, fun w' hS => Or.inl ⟨w', ?_, hS⟩⟩) ?_
      rotate_left
      · go_simp
        all_goals with_reducible rfl
      simp only [Act.put, List.setIfInBounds_toArray, List.set_cons_zero, List.set_cons_succ]
      refine det_take (v := ?_) (i := 31) (fuel := 15) (by simp; rfl) (by kernel_rfl) (by kernel_rfl) (by kernel_rfl) (Or.inl ⟨by rfl, fun w' hS => Or.inl ⟨w', ?_, hS⟩⟩) ?_
      rotate_left
      · obtain ⟨⟨a0, a1⟩, ⟨b0, b1⟩, ⟨c0, c1⟩, ⟨j0, j1⟩, ⟨i0, i1⟩⟩ := hS.cells
        go_simp
        all_goals with_reducible rfl
      simp only [Act.put, List.setIfInBounds_toArray, List.set_cons_zero, List.set_cons_succ]
      refine det_take (v := ?_) (i := 32) (fuel := 14) (by simp; rfl) (by kernel_rfl) (by kernel_rfl) (by kernel_rfl) (Or.inl ⟨by rfl, fun w' hS => Or.inl ⟨w', ?_, hS⟩⟩) ?_
      rotate_left
      · obtain ⟨⟨a0, a1⟩, ⟨b0, b1⟩, ⟨c0, c1⟩, ⟨j0, j1⟩, ⟨i0, i1⟩⟩ := hS.cells
        go_simp
        all_goals with_reducible rfl
      simp only [Act.put, List.setIfInBounds_toArray, List.set_cons_zero, List.set_cons_succ]
      refine det_take (v := ?_) (i := 33) (fuel := 13) (by simp; rfl) (by kernel_rfl) (by kernel_rfl) (by kernel_rfl) (Or.inl ⟨by rfl, fun w' hS => Or.inr ⟨12, #[.agg #[.int .u64 (A : Int), .int .i64 (va : Int)], .agg #[.int .u64 (J : Int), .int .i64 mj]], w', ?_, ?_⟩⟩) ?_
      rotate_left
      · go_simp
        all_goals with_reducible rfl
      · exact (meet_q A J A va mj va w' hA8 hJ8 J5.out.1 J5.out.2).mono fun e w2 h => ⟨by rw [h.1], hS.below h.2⟩
      simp only [Act.put, List.setIfInBounds_toArray, List.set_cons_zero, List.set_cons_succ]
      refine det_take (v := ?_) (i := 34) (fuel := 12) (by simp; rfl) (by kernel_rfl) (by kernel_rfl) (by kernel_rfl) (Or.inl ⟨by rfl, fun w' hS => Or.inl ⟨w', ?_, hS⟩⟩) ?_
      rotate_left
      · obtain ⟨⟨a0, a1⟩, ⟨b0, b1⟩, ⟨c0, c1⟩, ⟨j0, j1⟩, ⟨i0, i1⟩⟩ := hS.cells
        go_simp
        all_goals with_reducible rfl
      simp only [Act.put, List.setIfInBounds_toArray, List.set_cons_zero, List.set_cons_succ]
      refine det_take (v := ?_) (i := 35) (fuel := 11) (by simp; rfl) (by kernel_rfl) (by kernel_rfl) (by kernel_rfl) (Or.inl ⟨by rfl, fun w' hS => Or.inl ⟨w', ?_, hS⟩⟩) ?_
      rotate_left
      · go_simp
        all_goals with_reducible rfl
      simp only [Act.put, List.setIfInBounds_toArray, List.set_cons_zero, List.set_cons_succ]
      refine det_take (v := ?_) (i := 36) (fuel := 10) (by simp; rfl) (by kernel_rfl) (by kernel_rfl) (by kernel_rfl) (Or.inl ⟨by rfl, fun w' hS => Or.inl ⟨w', ?_, hS⟩⟩) ?_
      rotate_left
      · go_simp
        all_goals with_reducible rfl
      simp only [Act.put, List.setIfInBounds_toArray, List.set_cons_zero, List.set_cons_succ]
      refine det_take (v := ?_) (i := 37) (fuel := 9) (by simp; rfl) (by kernel_rfl) (by kernel_rfl) (by kernel_rfl) (Or.inl ⟨by rfl, fun w' hS => Or.inl ⟨w', ?_, hS⟩⟩) ?_
      rotate_left
      · go_simp
        all_goals with_reducible rfl
      simp only [Act.put, List.setIfInBounds_toArray, List.set_cons_zero, List.set_cons_succ]
      refine det_take (v := ?_) (i := 38) (fuel := 8) (by simp; rfl) (by kernel_rfl) (by kernel_rfl) (by kernel_rfl) (Or.inl ⟨by rfl, fun w' hS => Or.inl ⟨w', ?_, hS⟩⟩) ?_
      rotate_left
      · obtain ⟨⟨a0, a1⟩, ⟨b0, b1⟩, ⟨c0, c1⟩, ⟨j0, j1⟩, ⟨i0, i1⟩⟩ := hS.cells
        go_simp
        all_goals with_reducible rfl
      simp only [Act.put, List.setIfInBounds_toArray, List.set_cons_zero, List.set_cons_succ]
      refine det_take (v := ?_) (i := 39) (fuel := 7) (by simp; rfl) (by kernel_rfl) (by kernel_rfl) (by kernel_rfl) (Or.inl ⟨by rfl, fun w' hS => Or.inl ⟨w', ?_, hS⟩⟩) ?_
      rotate_left
      · obtain ⟨⟨a0, a1⟩, ⟨b0, b1⟩, ⟨c0, c1⟩, ⟨j0, j1⟩, ⟨i0, i1⟩⟩ := hS.cells
        go_simp
        all_goals with_reducible rfl
      simp only [Act.put, List.setIfInBounds_toArray, List.set_cons_zero, List.set_cons_succ]
      refine det_take (v := ?_) (i := 40) (fuel := 6) (by simp; rfl) (by kernel_rfl) (by kernel_rfl) (by kernel_rfl) (Or.inl ⟨by rfl, fun w' hS => Or.inr ⟨13, #[.agg #[.int .u64 (A : Int), .int .i64 (va : Int)], .agg #[.int .u64 (B : Int), .int .i64 (vb : Int)]], w', ?_, ?_⟩⟩) ?_
      rotate_left
      · go_simp
        all_goals with_reducible rfl
      · exact (below_q A B va vb p w' hA8 hB8 FP.out).mono fun e w2 h => ⟨by rw [h.1], hS.below h.2⟩
      simp only [Act.put, List.setIfInBounds_toArray, List.set_cons_zero, List.set_cons_succ]
      refine det_take (v := ?_) (i := 41) (fuel := 5) (by simp; rfl) (by kernel_rfl) (by kernel_rfl) (by kernel_rfl) (Or.inl ⟨by rfl, fun w' hS => Or.inl ⟨w', ?_, hS⟩⟩) ?_
      rotate_left
      · obtain ⟨⟨a0, a1⟩, ⟨b0, b1⟩, ⟨c0, c1⟩, ⟨j0, j1⟩, ⟨i0, i1⟩⟩ := hS.cells
        go_simp
        all_goals with_reducible rfl
      simp only [Act.put, List.setIfInBounds_toArray, List.set_cons_zero, List.set_cons_succ]
      refine det_take (v := ?_) (i := 42) (fuel := 4) (by simp; rfl) (by kernel_rfl) (by kernel_rfl) (by kernel_rfl) (Or.inl ⟨by rfl, fun w' hS => Or.inl ⟨w', ?_, hS⟩⟩) ?_
      rotate_left
      · obtain ⟨⟨a0, a1⟩, ⟨b0, b1⟩, ⟨c0, c1⟩, ⟨j0, j1⟩, ⟨i0, i1⟩⟩ := hS.cells
        go_simp
        all_goals with_reducible rfl
      simp only [Act.put, List.setIfInBounds_toArray, List.set_cons_zero, List.set_cons_succ]
      refine det_take (v := ?_) (i := 43) (fuel := 3) (by simp; rfl) (by kernel_rfl) (by kernel_rfl) (by kernel_rfl) (Or.inl ⟨by rfl, fun w' hS => Or.inl ⟨w', ?_, hS⟩⟩) ?_
      rotate_left
      · go_simp
        refine (lab_if (J : Int) mj (B : Int) (vb : Int) p (fun c => Result.ok (Next.value (Value.bool c)) w') J6.out).trans ?_
        with_reducible rfl
      simp only [Act.put, List.setIfInBounds_toArray, List.set_cons_zero, List.set_cons_succ]
      refine det_take (v := ?_) (i := 44) (fuel := 2) (by simp; rfl) (by kernel_rfl) (by kernel_rfl) (by kernel_rfl) (Or.inl ⟨by rfl, fun w' hS => Or.inl ⟨w', ?_, hS⟩⟩) ?_
      rotate_left
      · go_simp
        all_goals with_reducible rfl
      simp only [Act.put, List.setIfInBounds_toArray, List.set_cons_zero, List.set_cons_succ]
      refine det_take (v := ?_) (i := 45) (fuel := 1) (by simp; rfl) (by kernel_rfl) (by kernel_rfl) (by kernel_rfl) (Or.inl ⟨by rfl, fun w' hS => Or.inl ⟨w', ?_, hS⟩⟩) ?_
      rotate_left
      · go_simp
        all_goals with_reducible rfl
      simp only [Act.put, List.setIfInBounds_toArray, List.set_cons_zero, List.set_cons_succ]
      refine det_take (v := ?_) (i := 46) (fuel := 0) (by simp; rfl) (by kernel_rfl) (by kernel_rfl) (by kernel_rfl) (Or.inl ⟨by rfl, fun w' hS => Or.inl ⟨w', ?_, hS⟩⟩) ?_
      rotate_left
      · go_simp
        all_goals with_reducible rfl
      simp only [Act.put, List.setIfInBounds_toArray, List.set_cons_zero, List.set_cons_succ]
      refine det_done (by kernel_rfl) (fun V hV => ?_) _
      go_wp2
      go_ret
      exact ⟨rfl, hV.2.2.2.2.2⟩
end Go.Proofs.Ytpplledoankfgaa

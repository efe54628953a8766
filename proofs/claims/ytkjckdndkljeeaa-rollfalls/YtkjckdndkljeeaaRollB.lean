/- Package roll: laid. -/
import Derived.Test.YtkjckdndkljeeaaRollA
import Derived.Deep.CutBlock
import Derived.Deep.DeepCutAuto
namespace Go.Proofs.Ytkjckdndkljeeaa
open Go.RowKit
theorem append_run {P : Program} {o : Oper} {a : Act} {s x : Operand} {t u : TypeId} {v xv v' : Value} {w w' : World} (ho : o.op = .call { callee := .builtin .append, args := #[s, x], argTypes := #[t, u] }) (hs : a.eval s = v) (hx : a.eval x = xv)
    (hr : (Builtin.append_ #[t, u] o.type #[v, xv]).run P w = .ok v' w') : (execOp a.eval o).run P w = .ok (.value v') w' := by
  unfold execOp
  simp only [ho, resolve, invoke, builtin, Sem.run_bind, Sem.run_pure, Result.andThen_ok, List.map_toArray, List.map_cons, List.map_nil, hs, hx, hr]
/-- A slice of bytes is appended to one of the call's own. -/
theorem app_own (w : World) {B g n c m : Nat} {l r : List UInt8} {A : Option Addr} {m' : Nat} (h : Own w B g n c l) (hr : Bs w w.heap.size A m m' r) (hA : A ≠ none) (hB : B ≤ w.heap.size) (hm : n + m ≤ 140737488355328) (ty : TypeId) :
    ∃ g' c' w', (Builtin.append_ #[30, 30] ty #[.slice (some ⟨g, 0, none⟩) n c, .slice A m m']).run Try.prog w = .ok (.slice (some ⟨g', 0, none⟩) (n + m) c') w' ∧ Own w' B g' (n + m) c' (l ++ r) ∧ w.grownBy w' (some g) := by
  obtain ⟨i0, hi, hz0, hz1, hz2⟩ := info_parts Try.i8
  cases A with
  | none => exact absurd rfl hA
  | some ad =>
    obtain ⟨v', w', h1, h2, h3, h4⟩ := run_append_own (P := Try.prog) w B 30 ty 5 i0 (.int .u8 0) 1 1 Try.u42 hi hz0 hz1 hz2 rfl (by decide) (.slice (some ⟨g, 0, none⟩) n c) n (Lib.byteCells l) h.2 ad m m' (Lib.byteCells r) (by rw [Lib.byteCells_length, hr.len, Nat.mul_one]) (hr.news ad rfl) (byteCells_ones _) (by unfold maxLen; omega) (by omega) hB
    rw [← Lib.byteCells_append] at h2
    obtain ⟨g', c', rfl, ho⟩ := own_ne h2 (fun e => by have := (h4.1 e).1; cases this)
    exact ⟨g', c', w', h1, ho, h3⟩
theorem Own.bel_grown {w w1 w' : World} {B C g n c : Nat} {l : List UInt8} (h : Own w1 B g n c l) (hg : w1.grownBy w' (some g)) (hb : Below C w w1) (hC : C ≤ B) (hw : C ≤ w1.heap.size) : Below C w w' :=
  hb.grown hg hw (fun k hk => by cases hk; exact Nat.le_trans hC h.ge)
theorem own_lit (w : World) {cs : Array Value} {l : List UInt8} {n : Nat} (h : cs = (Lib.byteCells l).toArray) (hn : l.length = n) (hm : n ≤ 281474976710656) : Own (w.alloc (.cells cs 5)) w.heap.size w.heap.size n n l :=
  Row.own (row_lit w l h) hn (Nat.le_refl _) hm
theorem wpList_app {w : World} {ops : Array Oper} {rest : List Oper} {o : Oper} {a : Act} {Q : Exit → Act → World → Prop} (hgd : o.guard = none) (s x : Operand)
    (ho : o.op = .call { callee := .builtin .append, args := #[s, x], argTypes := #[30, 30] }) {B g n c m : Nat} {l r : List UInt8} {A : Option Addr} {m' : Nat} (hs : a.eval s = .slice (some ⟨g, 0, none⟩) n c) (hx : a.eval x = .slice A m m')
    (h : Own w B g n c l) (hr : Bs w w.heap.size A m m' r) (hA : A ≠ none) (hB : B ≤ w.heap.size) (hm : n + m ≤ 140737488355328)
    (hk : ∀ g' c' w', Own w' B g' (n + m) c' (l ++ r) → w.grownBy w' (some g) → wpList Try.prog ops Q rest (a.put o.dst (.slice (some ⟨g', 0, none⟩) (n + m) c')) w') : wpList Try.prog ops Q (o :: rest) a w := by
  refine wpList_plain hgd fun K hK => ?_
  obtain ⟨g', c', w', h1, h2, h3⟩ := app_own w h hr hA hB hm o.type
  unfold Oper.wp
  rw [append_run ho hs hx h1]
  exact hK _ _ (hk g' c' w' h2 h3)
theorem not_none (a : Addr) : (some a) ≠ none := by simp
theorem Bs.grown {w w' : World} {B g n c : Nat} {A : Option Addr} {l : List UInt8} (h : Bs w B A n c l) (hg : w.grownBy w' (some g)) (hne : ∀ a, A = some a → a.block ≠ g) : Bs w' B A n c l := by
  refine ⟨h.1, h.2.1, h.2.2.1, fun h0 => ?_⟩
  obtain ⟨g0, o, e, hlt, hc⟩ := h.2.2.2 h0
  refine ⟨g0, o, e, hlt, fun j hj => hg.cell (hc j hj) ?_⟩
  intro e2
  exact hne _ e (by injection e2)
theorem Own.grown {w w' : World} {B g k n c : Nat} {l : List UInt8} (h : Own w B g n c l) (hg : w.grownBy w' (some k)) (hne : g ≠ k) : Own w' B g n c l :=
  ⟨h.1, h.2.kept hg (.inr (by intro e; exact hne (by injection e)))⟩
theorem headB_cells (n : Nat) (h : n < 16384) : #[Value.int .u8 (128 + (n : Int) / 128), .int .u8 (128 + (n : Int) % 128)] = (Lib.byteCells (headB n)).toArray := by
  unfold headB Lib.byteCells
  simp only [List.map_cons, List.map_nil]
  rw [u8_of _ (by omega), u8_of _ (by omega)]
  simp
theorem tail_nest (q : Int) (t : List UInt8) : be8 q.toNat ++ enc (zig (t.length : Int)) ++ t ++ [255] = tailB ⟨q, t⟩ := rfl
theorem lit255 : #[Value.int .u8 255] = (Lib.byteCells [255]).toArray := rfl
set_option maxRecDepth 100000 in
set_option maxHeartbeats 3200000 in
theorem laid_c (q : Int) (t : List UInt8) (o : Nat) (w : World) (hq0 : 0 ≤ q) (hq : q ≤ 9223372036854775807) (ho : o ≤ 9223372036854775807) (ht : t.length ≤ 1000) :
    Calls Try.prog 34 #[.agg #[.int .i64 q, .string ⟨t.toArray⟩], .int .i64 (o : Int)] w fun e w' => ∃ g n c, e = .returned (.slice (some ⟨g, 0, none⟩) n c) ∧ Own w' w.heap.size g n c (frameB o ⟨q, t⟩) ∧ Below w.heap.size w w' := by
  have hu : IntKind.u64.wrap q = q := by rw [IntKind.wrap_u64]; omega
  have hqn : q = (q.toNat : Int) := by omega
  have HQN := Lib.hid hqn
  clear hqn
  go_enter Try.func34, Try.ntmps34
  go_upto_region 1 with fail
  obtain ⟨W, hW⟩ : ∃ W, w.alloc (.cells #[.int .i64 q, .string ⟨t.toArray⟩] 58) = W := ⟨_, rfl⟩
  have HK := Lib.hid (show Blk W w.heap.size 58 #[.int .i64 q, .string ⟨t.toArray⟩] by rw [← hW]; exact Blk.new _ _ _)
  have HB := Lib.hid (show Below w.heap.size w W by rw [← hW]; exact (Below.refl _ _).alloc (Nat.le_refl _) _)
  obtain ⟨k, hk⟩ : ∃ k, w.heap.size = k := ⟨_, rfl⟩
  have hkW : k < W.heap.size := by have := HK.out.lt; omega
  rw [hk] at HK
  rw [hW, hk]
  clear hW
  go_cut [5] (fun v wx => ∃ g n c, v = .slice (some ⟨g, 0, none⟩) n c ∧ Own wx W.heap.size g n c (tailB ⟨q, t⟩) ∧ Below W.heap.size W wx)
  case first =>
    as_aux_lemma =>
    have HBd := Lib.hid (show Below W.heap.size W W.drew from (Below.refl _ _).drew)
    refine wp_region_ord (S := fun V => Below W.heap.size W V) (by kernel_rfl) ?_
    refine ord_take (v := ?_) (i := 0) (fuel := 9) (by simp; rfl) (by kernel_rfl) (by kernel_rfl) (by kernel_rfl) (Or.inl ⟨by rfl, fun w' hSw => ?_⟩) HBd.out ?_
    rotate_left
    · go_simp
      all_goals with_reducible rfl
    simp only [Act.put, List.setIfInBounds_toArray, List.set_cons_zero, List.set_cons_succ]
    refine ord_take (v := ?_) (i := 1) (fuel := 8) (by simp; rfl) (by kernel_rfl) (by kernel_rfl) (by kernel_rfl) (Or.inl ⟨by rfl, fun w' hSw => ?_⟩) HBd.out ?_
    rotate_left
    · dsimp only at hSw
      have cc := (HK.out.below hSw hkW).cell 0
      simp at cc
      go_simp
      all_goals with_reducible rfl
    simp only [Act.put, List.setIfInBounds_toArray, List.set_cons_zero, List.set_cons_succ]
    refine ord_take (v := ?_) (i := 2) (fuel := 7) (by simp; rfl) (by kernel_rfl) (by kernel_rfl) (by kernel_rfl) (Or.inl ⟨by rfl, fun w' hSw => ?_⟩) HBd.out ?_
    rotate_left
    · go_simp
      all_goals with_reducible rfl
    simp only [Act.put, List.setIfInBounds_toArray, List.set_cons_zero, List.set_cons_succ]
    refine ord_take (v := ?_) (i := 4) (fuel := 6) (by simp; rfl) (by kernel_rfl) (by kernel_rfl) (by kernel_rfl) (Or.inl ⟨by rfl, fun w' hSw => ?_⟩) HBd.out ?_
    rotate_left
    · go_simp
      all_goals with_reducible rfl
    simp only [Act.put, List.setIfInBounds_toArray, List.set_cons_zero, List.set_cons_succ]
    refine ord_take (v := ?_) (i := 5) (fuel := 5) (by simp; rfl) (by kernel_rfl) (by kernel_rfl) (by kernel_rfl) (Or.inl ⟨by rfl, fun w' hSw => ?_⟩) HBd.out ?_
    rotate_left
    · dsimp only at hSw
      have cc := (HK.out.below hSw hkW).cell 1
      simp at cc
      go_simp
      all_goals with_reducible rfl
    simp only [Act.put, List.setIfInBounds_toArray, List.set_cons_zero, List.set_cons_succ]
    refine ord_two (i := 3) (j := 7) (fuel := 4) (by kernel_rfl) ?_ ?_
    · as_aux_lemma =>
      refine ordI_call (f := 47) (args := #[.int .u64 q]) (w1 := W.drew) (by simp; rfl) (by rfl) ?_ ?_
      · go_simp
        all_goals with_reducible rfl
      refine (bytes_c q.toNat _ _ HQN.out).mono ?_
      rintro e w1 ⟨rfl, hO, hb⟩
      have HB1 := Lib.hid (show Below W.heap.size W w1 from HBd.out.trans (hb.mono HBd.out.size))
      have HOw1 := Lib.hid (hO.base (show W.heap.size ≤ _ from HBd.out.size))
      obtain ⟨b1, hb1⟩ : ∃ b1, W.drew.heap.size = b1 := ⟨_, rfl⟩
      rw [hb1] at HOw1
      rw [hb1]
      clear hO hb hb1
      refine ⟨_, rfl, HB1.out, ?_⟩
      simp only [Act.put, List.setIfInBounds_toArray, List.set_cons_zero, List.set_cons_succ]
      refine ord_two (i := 6) (j := 7) (fuel := 3) (by kernel_rfl) ?_ ?_
      · skip
        refine ordI_call (f := 46) (args := #[.slice (some ⟨b1, 0, none⟩) 8 8, .string ⟨t.toArray⟩]) (w1 := w1) (by simp; rfl) (by rfl) ?_ ?_
        · go_simp
          all_goals with_reducible rfl
        refine (text_c _ 8 8 (be8 q.toNat) t _ HOw1.out.bs (by omega)).mono ?_
        rintro e w2 ⟨g, n, c, rfl, hO, hb⟩
        have HB2 := Lib.hid (show Below W.heap.size W w2 from HB1.out.trans (hb.mono HB1.out.size))
        have HO3 := Lib.hid (hO.base (show W.heap.size ≤ _ from HB1.out.size))
        clear hO hb
        refine ⟨_, rfl, HB2.out, ?_⟩
        simp only [Act.put, List.setIfInBounds_toArray, List.set_cons_zero, List.set_cons_succ]
        obtain ⟨k1, hk1⟩ : ∃ k1, w2.heap.size = k1 := ⟨_, rfl⟩
        obtain ⟨w3, hw3⟩ : ∃ V, w2.alloc (.cells #[.int .u8 255] 5) = V := ⟨_, rfl⟩
        have hA := (Below.refl w2.heap.size w2).alloc (Nat.le_refl _) (.cells #[.int .u8 255] 5)
        rw [hw3] at hA
        have HLw3 := Lib.hid (show Bs w3 w3.heap.size (some ⟨k1, 0, none⟩) 1 1 [255] by rw [← hw3, ← hk1]; exact bs_lit w2 _ lit255 rfl)
        have HB3 := Lib.hid (HB2.out.trans (hA.mono HB2.out.size))
        have HO3 := Lib.hid (HO3.out.below hA HO3.out.lt)
        clear hA
        refine ord_only (v := .slice (some ⟨k1, 0, none⟩) 1 1) (w' := w3) (i := 7) (fuel := 2) (by simp; rfl) (by kernel_rfl) (by rfl) ?_ HB3.out ?_
        · rw [← hw3, ← hk1]
          go_simp
          all_goals with_reducible rfl
        simp only [Act.put, List.setIfInBounds_toArray, List.set_cons_zero, List.set_cons_succ]
        have hn : n + 1 ≤ 140737488355328 := by
          have h1 := HO3.out.len
          have h2 := enc_len (zig (t.length : Int))
          simp only [List.length_append, be8_len] at h1
          omega
        obtain ⟨g', c', w4, hrun, hO4, hg4⟩ := app_own w3 HO3.out HLw3.out (not_none _) HB3.out.size hn 30
        have HB4 := Lib.hid (HO3.out.bel_grown hg4 HB3.out (Nat.le_refl _) HB3.out.size)
        have HO4 := Lib.hid hO4
        clear hO4 hg4
        refine ord_only (v := ?_) (w' := w4) (i := 8) (fuel := 1) (by simp; rfl) (by kernel_rfl) (by rfl) ?_ HB4.out ?_
        rotate_left
        · refine (append_run (s := .tmp 13) (x := .tmp 14) (v := .slice (some ⟨g, 0, none⟩) n c) (xv := .slice (some ⟨k1, 0, none⟩) 1 1) rfl (by rfl) (by rfl) hrun).trans ?_
          with_reducible rfl
        simp only [Act.put, List.setIfInBounds_toArray, List.set_cons_zero, List.set_cons_succ]
        refine ord_take (v := ?_) (i := 9) (fuel := 0) (by simp; rfl) (by kernel_rfl) (by kernel_rfl) (by kernel_rfl) (Or.inl ⟨by rfl, fun w' hSw => ?_⟩) HB4.out ?_
        rotate_left
        · go_simp
          all_goals with_reducible rfl
        simp only [Act.put, List.setIfInBounds_toArray, List.set_cons_zero, List.set_cons_succ]
        refine ord_done (by kernel_rfl) ?_ _
        go_wp2_with fail
        go_meet
        case rel => exact ⟨g', _, c', rfl, HO4.out, HB4.out⟩
      · skip
        obtain ⟨k1, hk1⟩ : ∃ k1, w1.heap.size = k1 := ⟨_, rfl⟩
        obtain ⟨w2, hw3⟩ : ∃ V, w1.alloc (.cells #[.int .u8 255] 5) = V := ⟨_, rfl⟩
        have hA := (Below.refl w1.heap.size w1).alloc (Nat.le_refl _) (.cells #[.int .u8 255] 5)
        rw [hw3] at hA
        have HLw2 := Lib.hid (show Bs w2 w2.heap.size (some ⟨k1, 0, none⟩) 1 1 [255] by rw [← hw3, ← hk1]; exact bs_lit w1 _ lit255 rfl)
        have HB2 := Lib.hid (HB1.out.trans (hA.mono HB1.out.size))
        have HO2 := Lib.hid (HOw1.out.below hA HOw1.out.lt)
        clear hA
        refine ordI_only (v := .slice (some ⟨k1, 0, none⟩) 1 1) (w' := w2) (by simp; rfl) (by rfl) ?_ HB2.out ?_
        · rw [← hw3, ← hk1]
          go_simp
          all_goals with_reducible rfl
        simp only [Act.put, List.setIfInBounds_toArray, List.set_cons_zero, List.set_cons_succ]
        refine ord_call (f := 46) (args := #[.slice (some ⟨b1, 0, none⟩) 8 8, .string ⟨t.toArray⟩]) (w1 := w2) (i := 6) (fuel := 2) (by simp; rfl) (by kernel_rfl) (by rfl) ?_ ?_
        · go_simp
          all_goals with_reducible rfl
        refine (text_c _ 8 8 (be8 q.toNat) t _ HO2.out.bs (by omega)).mono ?_
        rintro e w3 ⟨g, n, c, rfl, hO, hb⟩
        have HB3 := Lib.hid (show Below W.heap.size W w3 from HB2.out.trans (hb.mono HB2.out.size))
        have HO3 := Lib.hid (hO.base (show W.heap.size ≤ _ from HB2.out.size))
        have HLw3 := Lib.hid ((HLw2.out.below hb).more hb.size)
        clear hO hb
        refine ⟨_, rfl, HB3.out, ?_⟩
        simp only [Act.put, List.setIfInBounds_toArray, List.set_cons_zero, List.set_cons_succ]
        have hn : n + 1 ≤ 140737488355328 := by
          have h1 := HO3.out.len
          have h2 := enc_len (zig (t.length : Int))
          simp only [List.length_append, be8_len] at h1
          omega
        obtain ⟨g', c', w4, hrun, hO4, hg4⟩ := app_own w3 HO3.out HLw3.out (not_none _) HB3.out.size hn 30
        have HB4 := Lib.hid (HO3.out.bel_grown hg4 HB3.out (Nat.le_refl _) HB3.out.size)
        have HO4 := Lib.hid hO4
        clear hO4 hg4
        refine ord_only (v := ?_) (w' := w4) (i := 8) (fuel := 1) (by simp; rfl) (by kernel_rfl) (by rfl) ?_ HB4.out ?_
        rotate_left
        · refine (append_run (s := .tmp 13) (x := .tmp 14) (v := .slice (some ⟨g, 0, none⟩) n c) (xv := .slice (some ⟨k1, 0, none⟩) 1 1) rfl (by rfl) (by rfl) hrun).trans ?_
          with_reducible rfl
        simp only [Act.put, List.setIfInBounds_toArray, List.set_cons_zero, List.set_cons_succ]
        refine ord_take (v := ?_) (i := 9) (fuel := 0) (by simp; rfl) (by kernel_rfl) (by kernel_rfl) (by kernel_rfl) (Or.inl ⟨by rfl, fun w' hSw => ?_⟩) HB4.out ?_
        rotate_left
        · go_simp
          all_goals with_reducible rfl
        simp only [Act.put, List.setIfInBounds_toArray, List.set_cons_zero, List.set_cons_succ]
        refine ord_done (by kernel_rfl) ?_ _
        go_wp2_with fail
        go_meet
        case rel => exact ⟨g', _, c', rfl, HO4.out, HB4.out⟩
    · as_aux_lemma =>
      obtain ⟨k1, hk1⟩ : ∃ k1, W.drew.heap.size = k1 := ⟨_, rfl⟩
      obtain ⟨w1, hw3⟩ : ∃ V, W.drew.alloc (.cells #[.int .u8 255] 5) = V := ⟨_, rfl⟩
      have hA := (Below.refl W.drew.heap.size W.drew).alloc (Nat.le_refl _) (.cells #[.int .u8 255] 5)
      rw [hw3] at hA
      have HLw1 := Lib.hid (show Bs w1 w1.heap.size (some ⟨k1, 0, none⟩) 1 1 [255] by rw [← hw3, ← hk1]; exact bs_lit W.drew _ lit255 rfl)
      have HB1 := Lib.hid (HBd.out.trans (hA.mono HBd.out.size))
      clear hA
      refine ordI_only (v := .slice (some ⟨k1, 0, none⟩) 1 1) (w' := w1) (by simp; rfl) (by rfl) ?_ HB1.out ?_
      · rw [← hw3, ← hk1]
        go_simp
        all_goals with_reducible rfl
      simp only [Act.put, List.setIfInBounds_toArray, List.set_cons_zero, List.set_cons_succ]
      refine ord_call (f := 47) (args := #[.int .u64 q]) (w1 := w1) (i := 3) (fuel := 3) (by simp; rfl) (by kernel_rfl) (by rfl) ?_ ?_
      · go_simp
        all_goals with_reducible rfl
      refine (bytes_c q.toNat _ _ HQN.out).mono ?_
      rintro e w2 ⟨rfl, hO, hb⟩
      have HB2 := Lib.hid (show Below W.heap.size W w2 from HB1.out.trans (hb.mono HB1.out.size))
      have HOw2 := Lib.hid (hO.base (show W.heap.size ≤ _ from HB1.out.size))
      obtain ⟨b1, hb1⟩ : ∃ b1, w1.heap.size = b1 := ⟨_, rfl⟩
      rw [hb1] at HOw2
      rw [hb1]
      have HLw2 := Lib.hid ((HLw1.out.below hb).more hb.size)
      clear hO hb hb1
      refine ⟨_, rfl, HB2.out, ?_⟩
      simp only [Act.put, List.setIfInBounds_toArray, List.set_cons_zero, List.set_cons_succ]
      refine ord_call (f := 46) (args := #[.slice (some ⟨b1, 0, none⟩) 8 8, .string ⟨t.toArray⟩]) (w1 := w2) (i := 6) (fuel := 2) (by simp; rfl) (by kernel_rfl) (by rfl) ?_ ?_
      · go_simp
        all_goals with_reducible rfl
      refine (text_c _ 8 8 (be8 q.toNat) t _ HOw2.out.bs (by omega)).mono ?_
      rintro e w3 ⟨g, n, c, rfl, hO, hb⟩
      have HB3 := Lib.hid (show Below W.heap.size W w3 from HB2.out.trans (hb.mono HB2.out.size))
      have HO3 := Lib.hid (hO.base (show W.heap.size ≤ _ from HB2.out.size))
      have HLw3 := Lib.hid ((HLw2.out.below hb).more hb.size)
      clear hO hb
      refine ⟨_, rfl, HB3.out, ?_⟩
      simp only [Act.put, List.setIfInBounds_toArray, List.set_cons_zero, List.set_cons_succ]
      have hn : n + 1 ≤ 140737488355328 := by
        have h1 := HO3.out.len
        have h2 := enc_len (zig (t.length : Int))
        simp only [List.length_append, be8_len] at h1
        omega
      obtain ⟨g', c', w4, hrun, hO4, hg4⟩ := app_own w3 HO3.out HLw3.out (not_none _) HB3.out.size hn 30
      have HB4 := Lib.hid (HO3.out.bel_grown hg4 HB3.out (Nat.le_refl _) HB3.out.size)
      have HO4 := Lib.hid hO4
      clear hO4 hg4
      refine ord_only (v := ?_) (w' := w4) (i := 8) (fuel := 1) (by simp; rfl) (by kernel_rfl) (by rfl) ?_ HB4.out ?_
      rotate_left
      · refine (append_run (s := .tmp 13) (x := .tmp 14) (v := .slice (some ⟨g, 0, none⟩) n c) (xv := .slice (some ⟨k1, 0, none⟩) 1 1) rfl (by rfl) (by rfl) hrun).trans ?_
        with_reducible rfl
      simp only [Act.put, List.setIfInBounds_toArray, List.set_cons_zero, List.set_cons_succ]
      refine ord_take (v := ?_) (i := 9) (fuel := 0) (by simp; rfl) (by kernel_rfl) (by kernel_rfl) (by kernel_rfl) (Or.inl ⟨by rfl, fun w' hSw => ?_⟩) HB4.out ?_
      rotate_left
      · go_simp
        all_goals with_reducible rfl
      simp only [Act.put, List.setIfInBounds_toArray, List.set_cons_zero, List.set_cons_succ]
      refine ord_done (by kernel_rfl) ?_ _
      go_wp2_with fail
      go_meet
      case rel => exact ⟨g', _, c', rfl, HO4.out, HB4.out⟩
  case rest =>
    as_aux_lemma =>
    obtain ⟨g, n, c, rfl, hO, hb⟩ := hcut
    obtain ⟨V, rfl⟩ : ∃ V : World, V = wc := ⟨_, rfl⟩
    have HO := Lib.hid hO
    have HBV := Lib.hid hb
    have hN : n = (tailB ⟨q, t⟩).length := hO.len.symm
    have hn2 : n ≤ 1100 := by
      have h1 := tailB_len ⟨q, t⟩
      have h2 := enc_len (zig (t.length : Int))
      simp only at h1
      omega
    have HN := Lib.hid hN
    have HC := Lib.hid (headB_cells n (by omega))
    clear hO hb hN
    go_wp2_with fail
    obtain ⟨h, hh⟩ : ∃ h, V.heap.size = h := ⟨_, rfl⟩
    obtain ⟨V1, hV1⟩ : ∃ V1, V.alloc (.cells #[.int .u8 (128 + (n : Int) / 128), .int .u8 (128 + (n : Int) % 128)] 5) = V1 := ⟨_, rfl⟩
    have hA : Below V.heap.size V V1 := by rw [← hV1]; exact (Below.refl _ _).alloc (Nat.le_refl _) _
    have HH := Lib.hid (show Own V1 W.heap.size h 2 2 (headB n) by
      have := own_lit V HC.out (n := 2) rfl (by omega)
      rw [hV1, hh] at this
      exact this.base (by rw [← hh]; exact HBV.out.size))
    have HG := Lib.hid (show g ≠ h by have := HO.out.lt; omega)
    have HO1 := Lib.hid (HO.out.below hA HO.out.lt)
    have HB1 := Lib.hid (HBV.out.trans (hA.mono HBV.out.size))
    rw [hV1, hh]
    clear hV1 hh hA HO HBV
    (with_reducible refine (marked_c o _ _ n c (tailB ⟨q, t⟩) _ HO1.out.bs rfl ho (by omega)).mono ?_)
    rintro e V2 ⟨rfl, hM, hb⟩
    have HM := Lib.hid hM
    have HH2 := Lib.hid (HH.out.below hb HH.out.lt)
    have HO2 := Lib.hid (HO1.out.below hb HO1.out.lt)
    have HB2 := Lib.hid (HB1.out.trans (hb.mono HB1.out.size))
    clear hM hb HH HO1 HB1
    go_wp2_with (at_builtin; first | (refine wpList_app rfl (.tmp 27) (.tmp 30) rfl rfl rfl HH2.out HM.out.bs (not_none _) HB2.out.size ?hm ?_; (case hm => omega); intro g1 c1 V3 hO3 hg3; have HB3 := Lib.hid (HH2.out.bel_grown hg3 HB2.out (Nat.le_refl _) HB2.out.size); have HO3 := Lib.hid (HO2.out.grown hg3 HG.out); have HH3 := Lib.hid hO3; clear hO3 hg3 HO2 HB2 HH2 HM) | (refine wpList_app rfl (.tmp 32) (.tmp 33) rfl rfl rfl HH3.out HO3.out.bs (not_none _) HB3.out.size ?hm ?_; (case hm => omega); intro g2 c2 V4 hO4 hg4; have HB4 := Lib.hid (HH3.out.bel_grown hg4 HB3.out (Nat.le_refl _) HB3.out.size); have HH4 := Lib.hid hO4; clear hO4 hg4))
    go_ret
    refine ⟨g2, _, c2, rfl, ?_, HB.out.trans (HB4.out.mono HB.out.size)⟩
    have := HH4.out.base (show k ≤ W.heap.size by omega)
    rw [HN.out] at this ⊢
    rw [hk]
    unfold frameB
    exact this
end Go.Proofs.Ytkjckdndkljeeaa

/- As OrdZ: a call that leaves the world alone, and yields one value in every world that meets S, may be taken first, too. -/
/- pyxhand.Pick: its value. -/
/- RuleDenies. -/
import Derived.Test.YtakofbkbbmpfeaaOrdZ
import Derived.Test.YtakofbkbbmpfeaaCoreA
import Derived.WalkKit
import Derived.Test.YtakofbkbbmpfeaaRulJ
import Derived.Deep.DeepCutAuto
import Derived.Deep.CutBlock
namespace Go.Proofs.Ytakofbkbbmpfeaa
open Go.RowKit

section
variable {P : Program} {ops : Array Oper} {Q : Exit → Act → World → Prop} {md : Region.Mode} {S : World → Prop} {z : Nat}
/-- In every world that meets S it is a call that returns v, and leaves the world alone. -/
def OneC (P : Program) (ops : Array Oper) (S : World → Prop) (o : Oper) (v : Value) (a : Act) : Prop :=
  Region.wanted o (yielded ops a.tmps) = true ∧ ∃ f args, ∀ w, S w → (execOp a.eval o).run P w = .ok (.enter f args) w ∧ Calls P f args w fun e w' => e = .returned v ∧ w = w'
theorem OneC.same {o : Oper} {v : Value} {a a' : Act} (h : OneC P ops S o v a) (he : execOp a'.eval o = execOp a.eval o)
    (hw : Region.wanted o (yielded ops a'.tmps) = Region.wanted o (yielded ops a.tmps)) : OneC P ops S o v a' := by
  unfold OneC at *
  rw [he, hw]
  exact h
theorem OneC.nop {o : Oper} {v : Value} {a : Act} {w : World} {K : Value → World → Prop} (h : OneC P ops S o v a) (hS : S w) (hK : K v w) : NoP P ops o a w K := by
  obtain ⟨hw, f, args, h⟩ := h
  obtain ⟨hr, hc⟩ := h w hS
  exact .inl ⟨hw, .inr ⟨f, args, w, hr, hc.mono fun e w' ⟨he, hww⟩ => ⟨v, he, hww ▸ hK⟩⟩⟩
theorem ordc_first {i : Nat} {oi : Oper} {v : Value} (hi : ops[i]? = some oi) (hz : Region.waitsFor md ops z i = true) (hsel : ∀ (j : Nat) (o : Oper) cs b, ops[j]? = some o → o.op ≠ .select cs b) :
    ∀ (fuel : Nat) (listed : Array Bool) (a : Act) (w : World),
      (∀ j oj, ops[j]? = some oj → j ≠ i → listed.getD j true = false → (∀ e ∈ oj.after, Region.binds md e = true → e.on ≠ i) → oi.apart ops oj = true) →
      i ∈ Region.ready md ops listed → OneC P ops S oi v a → S w →
      OrdZ P md ops Q S z fuel (listed.setIfInBounds i true) (a.put oi.dst v) w → OrdZ P md ops Q S z (fuel + 1) listed a w := by
  intro fuel
  induction fuel with
  | zero =>
    intro listed a w _ hr hy hS H
    refine ⟨fun h => (by rw [h] at hr; cases hr), fun j hj oj hoj => ?_⟩
    by_cases hji : j = i
    · subst hji
      rw [hi] at hoj
      cases hoj
      exact hy.nop hS ⟨.inr hS, H⟩
    · have := ready_mono hj hji
      rw [H.1] at this
      cases this
  | succ fuel ih =>
    intro listed a w hfree hr hy hS H
    refine ⟨fun h => (by rw [h] at hr; cases hr), fun j hj oj hoj => ?_⟩
    by_cases hji : j = i
    · subst hji
      rw [hi] at hoj
      cases hoj
      exact hy.nop hS ⟨.inr hS, H⟩
    · have hN := H.2 j (ready_mono hj hji) oj hoj
      obtain ⟨hjun, oj', hoj', hall⟩ := mem_ready.1 hj
      rw [hoj] at hoj'
      cases hoj'
      have hnot : ∀ e ∈ oj.after, Region.binds md e = true → e.on ≠ i := fun e he hb heq => by
        have h1 := hall e he hb
        have h0 := (mem_ready.1 hr).1
        rw [heq] at h1
        rcases Nat.lt_or_ge i listed.size with h' | h'
        · simp [h'] at h0 h1; rw [h0] at h1; cases h1
        · simp [Array.getElem?_eq_none h'] at h1
      obtain ⟨h1, h2, h3⟩ := Oper.apart_spec (hfree j oj hoj hji hjun hnot)
      have hjz : j ≠ z := by
        rintro rfl
        obtain ⟨o', ho', e, he, hb, hon⟩ := Region.waitsFor_spec hz
        rw [hoj] at ho'
        cases ho'
        exact hnot e he hb hon
      have hN' : NoP P ops oj a w fun u w' => (j = z ∨ S w') ∧ OrdZ P md ops Q S z fuel ((listed.setIfInBounds i true).setIfInBounds j true) ((a.put oi.dst v).put oj.dst u) w' :=
        hN.same (execOp_put oj (fun cs b => hsel j oj cs b hoj) a oi.dst v h1).symm (wanted_put oj a oi.dst v h1).symm
      refine hN'.mono fun u w' ⟨hS0, hO⟩ => have hS' := hS0.resolve_left hjz; ⟨.inr hS', ih (listed.setIfInBounds j true) (a.put oj.dst u) w' ?_ (ready_mono hr (Ne.symm hji))
        (hy.same (execOp_put oi (fun cs b => hsel i oi cs b hi) a oj.dst u h3) (wanted_put oi a oj.dst u h3)) hS' ?_⟩
      · intro k ok hk hki hun hno
        refine hfree k ok hk hki ?_ hno
        by_cases hjk : j = k
        · subst hjk; exact hjun
        · rw [_root_.Go.getD_set_ne true hjk] at hun; exact hun
      · rw [Array.setIfInBounds_comm _ _ hji, ← Act.put_comm a v u h2]
        exact hO

theorem ordc_take {i : Nat} {oi : Oper} {v : Value} {fuel : Nat} {listed : Array Bool} {a : Act} {w : World} (hi : ops[i]? = some oi)
    (hs : Region.noSelect ops = true) (hf : Region.free md ops listed i = true) (hr : (Region.ready md ops listed).contains i = true) (hz : Region.waitsFor md ops z i = true)
    (hy : OneC P ops S oi v a) (hS : S w) (h : OrdZ P md ops Q S z fuel (listed.setIfInBounds i true) (a.put oi.dst v) w) : OrdZ P md ops Q S z (fuel + 1) listed a w :=
  ordc_first hi hz (Region.noSelect_spec hs) fuel listed a w (Region.free_spec hi hf) (by simpa using hr) hy hS h
/-- Number i comes up. -/
def OrdIz (P : Program) (md : Region.Mode) (ops : Array Oper) (Q : Exit → Act → World → Prop) (S : World → Prop) (z fuel : Nat) (listed : Array Bool) (a : Act) (w : World) (i : Nat) : Prop :=
  ∀ o, ops[i]? = some o → NoP P ops o a w fun v w' => (i = z ∨ S w') ∧ OrdZ P md ops Q S z fuel (listed.setIfInBounds i true) (a.put o.dst v) w'
theorem ordIz_only {i : Nat} {oi : Oper} {v : Value} {w' : World} {fuel : Nat} {listed : Array Bool} {a : Act} {w : World} (hi : ops[i]? = some oi)
    (hw : Region.wanted oi (yielded ops a.tmps) = true) (hv : (execOp a.eval oi).run P w = .ok (.value v) w') (hS : i = z ∨ S w')
    (h : OrdZ P md ops Q S z fuel (listed.setIfInBounds i true) (a.put oi.dst v) w') : OrdIz P md ops Q S z fuel listed a w i := by
  intro oj hoj
  rw [hi] at hoj
  cases hoj
  exact .inl ⟨hw, .inl ⟨v, w', hv, hS, h⟩⟩
theorem ordIz_call {i : Nat} {oi : Oper} {f : FuncId} {args : Array Value} {w1 : World} {fuel : Nat} {listed : Array Bool} {a : Act} {w : World} (hi : ops[i]? = some oi)
    (hw : Region.wanted oi (yielded ops a.tmps) = true) (hv : (execOp a.eval oi).run P w = .ok (.enter f args) w1)
    (h : Calls P f args w1 fun e w' => ∃ v, e = .returned v ∧ (i = z ∨ S w') ∧ OrdZ P md ops Q S z fuel (listed.setIfInBounds i true) (a.put oi.dst v) w') : OrdIz P md ops Q S z fuel listed a w i := by
  intro oj hoj
  rw [hi] at hoj
  cases hoj
  exact .inl ⟨hw, .inr ⟨f, args, w1, hv, h⟩⟩
theorem ordz_two {i j : Nat} {fuel : Nat} {listed : Array Bool} {a : Act} {w : World} (hr : Region.ready md ops listed = [i, j])
    (h1 : OrdIz P md ops Q S z fuel listed a w i) (h2 : OrdIz P md ops Q S z fuel listed a w j) : OrdZ P md ops Q S z (fuel + 1) listed a w := by
  refine ⟨fun h => (by rw [h] at hr; cases hr), fun k hk o ho => ?_⟩
  rw [hr] at hk
  rcases (show k = i ∨ k = j by simpa using hk) with rfl | rfl
  · exact h1 o ho
  · exact h2 o ho
end
end Go.Proofs.Ytakofbkbbmpfeaa

namespace Go.Proofs.Ytakofbkbbmpfeaa
open Go.RowKit
def pickI (n m : Int) : Int := if n.tmod m < 0 then n.tmod m + m else n.tmod m
theorem pickI_range (n m : Int) (hm : 0 < m) : 0 ≤ pickI n m ∧ pickI n m < m := by
  have h1 : n.tmod m < m := Int.tmod_lt_of_pos n hm
  have h2 : -m < n.tmod m := by
    have := Int.lt_tmod_of_pos n hm
    omega
  unfold pickI
  split <;> omega
set_option maxHeartbeats 400000 in
theorem pick_d (n m r : Int) (w : World) (hm : 0 < m) (hm2 : m ≤ 1000000000000) (hr : pickI n m = r) :
    Calls Try.prog 5 #[.int .i64 n, .int .i64 m] w fun e w' => e = .returned (.int .i64 r) ∧ w = w' := by
  have h1 : n.tmod m < m := Int.tmod_lt_of_pos n hm
  have h2 : -m < n.tmod m := by
    have := Int.lt_tmod_of_pos n hm
    omega
  unfold pickI at hr
  obtain ⟨t, ht⟩ : ∃ t, n.tmod m = t := ⟨_, rfl⟩
  rw [ht] at h1 h2 hr
  have hne : (m == 0) = false := by simp; omega
  subst hr
  by_cases hneg : t < 0
  · rw [if_pos hneg]
    go_enter Try.func5, Try.ntmps5
    go_wp2
    go_ret
    exact ⟨rfl, rfl⟩
  · rw [if_neg hneg]
    go_enter Try.func5, Try.ntmps5
    go_wp2
    go_ret
    exact ⟨rfl, rfl⟩
theorem pick_n (n m : Int) (hm : 0 < m) : ∃ k : Nat, pickI n m = (k : Int) ∧ (k : Int) < m := by
  have h := pickI_range n m hm
  exact ⟨(pickI n m).toNat, by omega, by omega⟩
end Go.Proofs.Ytakofbkbbmpfeaa

namespace Go.Proofs.Ytakofbkbbmpfeaa
open Go.RowKit
set_option maxRecDepth 100000 in
theorem lit_run {X : World} {o : Oper} {a : Act} {t : Operand} {tag role verb ent : Int} (ho : o.op = .buildSlice 26 1 #[(0, t)]) (ha : a.eval t = .agg #[.int .i64 tag, .int .i64 role, .int .i64 verb, .int .i64 ent, .int .i64 0, .int .i64 0, .bool false, .int .u64 0, .int .u64 0, .int .i64 0, .int .u64 0, .int .i64 0]) :
    (execOp a.eval o).run Try.prog X = .ok (.value (.slice (some ⟨X.heap.size, 0, none⟩) 1 1)) (X.alloc (.cells #[.int .i64 tag, .int .i64 role, .int .i64 verb, .int .i64 ent, .int .i64 0, .int .i64 0, .bool false, .int .u64 0, .int .u64 0, .int .i64 0, .int .u64 0, .int .i64 0] 51)) := by
  unfold execOp
  rw [ho]
  generalize hv : a.eval = ev at ha ⊢
  simp [go_sem, ha]
theorem wrapI {m : Int} (h1 : -1000000 ≤ m) (h2 : m ≤ 1000000) : IntKind.i64.wrap m = m := by
  simp [IntKind.wrap, IntKind.signed, IntKind.bits]
  omega
theorem add_at (g o j : Nat) : (⟨g, o, none⟩ : Addr).add j = ⟨g, o + j, none⟩ := by
  by_cases hz : j = 0
  · subst hz; simp [Addr.add]
  · simp [Addr.add, hz]
/-- Append to a row that is not nil; of none, too. -/
theorem app_keep (w : World) {TS E : TypeId} {z : Value} {size bytes : Nat} (hts : Try.prog.underlying TS = some (.slice E)) (hie : (Try.prog.info? E).map (fun i => (i.zero, i.size, i.bytes)) = some (some z, size, bytes)) (hzs : z.cells.size = size) (hsz : 0 < size) (hby : bytes ≤ 1000)
    {base n : Nat} {v : Value} {xs : List Value} (h : w.ownsRow base E size v n xs) (hv : v ≠ .slice none 0 0) (a : Addr) (m c : Nat) (news : List Value) (hl : news.length = m * size) (hnews : ∀ (j : Nat) u, news[j]? = some u → w.cell? (a.add j) = some u) (h1 : ∀ u ∈ news, u.oneCell' = true)
    (hn : n + m ≤ 1000000) (hB : base ≤ w.heap.size) (ty : TypeId) :
    ∃ g' c' w', (Builtin.append_ #[TS, TS] ty #[v, .slice (some a) m c]).run Try.prog w = .ok (.slice (some ⟨g', 0, none⟩) (n + m) c') w' ∧ w'.ownsRow base E size (.slice (some ⟨g', 0, none⟩) (n + m) c') (n + m) (xs ++ news) ∧ w.grownBy w' v.ownBlock := by
  obtain ⟨i0, hi, hz0, hz1, hz2⟩ := info_parts hie
  have hbb : (n + m) * bytes ≤ 1000000 * 1000 := Nat.mul_le_mul hn hby
  obtain ⟨v', w', hr, ho, hg, hnil⟩ := run_append_own (P := Try.prog) w base TS ty E i0 z size bytes hts hi hz0 hz1 hz2 hzs hsz v n xs h a m c news hl hnews h1 (by unfold maxLen; omega) (by omega) hB
  rcases ho.2 with ⟨rfl, _⟩ | ⟨g', c', cur, rfl, _⟩
  · exact absurd (hnil.1 rfl).1 hv
  · exact ⟨g', c', w', hr, ho, hg⟩
/-- As RowsW.rd; with the rooms. -/
theorem RowsW.rdc {B : Nat} {w : World} {R : Row5} {P : PolP} (h : RowsW B w R P) : ∃ s : Slp, R.e = .slice s.Ae P.ents.length s.ce ∧ R.g = .slice s.Ag P.grp.length s.cg ∧ R.h = .slice s.Ah P.who.length s.ch ∧ R.u = .slice s.Au P.up.length s.cu ∧ R.r = .slice s.Ar P.rules.length s.cr ∧ PolRd w w.heap.size s P ∧ P.who.length ≤ s.ch ∧ P.rules.length ≤ s.cr := by
  obtain ⟨A1, c1, e1, _, r1⟩ := own_rd h.1
  obtain ⟨A2, c2, e2, _, r2⟩ := own_rd h.2.1
  obtain ⟨A3, c3, e3, l3, r3⟩ := own_rd h.2.2.1
  obtain ⟨A4, c4, e4, l4, r4⟩ := own_rd h.2.2.2.1
  obtain ⟨A5, c5, e5, l5, r5⟩ := own_rd h.2.2.2.2
  exact ⟨⟨A1, c1, A2, c2, A3, c3, A4, c4, A5, c5⟩, e1, e2, e3, e4, e5, ⟨r1, r2, r3, rd_il r4 rfl l4, r5⟩, l3, l5⟩
theorem rd_add {w : World} {B g o n : Nat} {vs : List Value} (h : RdR w B (some ⟨g, o, none⟩) n vs) (hn : 0 < n) : ∀ (j : Nat) u, vs[j]? = some u → w.cell? ((⟨g, o, none⟩ : Addr).add j) = some u := fun j u hu => by
  obtain ⟨g', o', e, _, hc⟩ := h hn
  injection e with e
  injection e with e1 e2
  subst e1
  subst e2
  rw [add_at]
  exact hc j u hu
theorem rd_drop {w : World} {B g o ok n k : Nat} {l : List RuleP} (h : RdR w B (some ⟨g, o, none⟩) n (l.flatMap ruleV)) (hl : l.length = n) (hn : 0 < n) (hk : k < n → ok = o + k * 12) : ∀ (j : Nat) u, ((l.drop k).flatMap ruleV)[j]? = some u → w.cell? ((⟨g, ok, none⟩ : Addr).add j) = some u := fun j u hu => by
  have e : l.flatMap ruleV = (l.take k).flatMap ruleV ++ (l.drop k).flatMap ruleV := by rw [← List.flatMap_append, List.take_append_drop]
  rcases Nat.lt_or_ge k n with hlt | hge
  · rw [hk hlt, add_at]
    have hx := rd_add h hn (k * 12 + j) u (by
      rw [e, List.getElem?_append_right (by rw [flat_len ruleV 12 len_rule, List.length_take]; omega), flat_len ruleV 12 len_rule, List.length_take, hl, Nat.min_eq_left (by omega), Nat.add_sub_cancel_left]
      exact hu)
    rw [add_at] at hx
    rw [Nat.add_assoc]
    exact hx
  · rw [List.drop_eq_nil_of_le (by omega)] at hu
    simp at hu
theorem rd_take {w : World} {B g o n k : Nat} {l : List RuleP} (h : RdR w B (some ⟨g, o, none⟩) n (l.flatMap ruleV)) (hn : 0 < n) : ∀ (j : Nat) u, ((l.take k).flatMap ruleV)[j]? = some u → w.cell? ((⟨g, o, none⟩ : Addr).add j) = some u := fun j u hu => by
  refine rd_add h hn j u ?_
  have e : l.flatMap ruleV = (l.take k).flatMap ruleV ++ (l.drop k).flatMap ruleV := by rw [← List.flatMap_append, List.take_append_drop]
  rw [e, List.getElem?_append_left (List.getElem?_eq_some_iff.1 hu).1]
  exact hu
theorem rules_ones (l : List RuleP) : ∀ u ∈ l.flatMap ruleV, u.oneCell' = true := fun u hu => by
  obtain ⟨r, _, h⟩ := List.mem_flatMap.1 hu
  exact ruleV_ones r u h
theorem blk_add {w : World} {g : Nat} {T : TypeId} {cs : Array Value} (h : Blk w g T cs) : ∀ (j : Nat) u, cs.toList[j]? = some u → w.cell? ((⟨g, 0, none⟩ : Addr).add j) = some u := fun j u hu => by
  rw [add_at, Nat.zero_add, h.cell j, ← hu]
  simp
theorem own_rd2 {w : World} {B n size c g o : Nat} {E : TypeId} {xs : List Value} (h : w.ownsRow B E size (.slice (some ⟨g, o, none⟩) n c) n xs) : RdR w w.heap.size (some ⟨g, o, none⟩) n xs := by
  obtain ⟨A, c', e, _, hr⟩ := own_rd h
  injection e with e1 e2 e3
  rw [← e1] at hr
  exact hr
/-- A policy of other rules lies in block gq; below it all is as it was. -/
def DenQ (W : World) (s : Slp) (ne ng nh nu gq nl : Nat) (l : List RuleP) (wx : World) : Prop := ∃ g c, Blk wx gq 28 #[.slice s.Ae ne s.ce, .slice s.Ag ng s.cg, .slice s.Ah nh s.ch, .slice s.Au nu s.cu, .slice (some ⟨g, 0, none⟩) nl c] ∧ RdR wx wx.heap.size (some ⟨g, 0, none⟩) nl (l.flatMap ruleV) ∧ Below gq W wx
end Go.Proofs.Ytakofbkbbmpfeaa

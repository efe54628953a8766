/- RuleDenies. -/
import Derived.Test.YthjdflhjlaedgabRulK
import Derived.Test.YthjdflhjlaedgabRulJ
import Derived.Test.YthjdflhjlaedgabOrdC
import Derived.Test.YthjdflhjlaedgabPickD
import Derived.Deep.DeepCutAuto
import Derived.Deep.CutBlock
namespace Go.Proofs.Ythjdflhjlaedgab
open Go.RowKit
set_option maxRecDepth 100000 in
theorem lit_run {X : World} {o : Oper} {a : Act} {t : Operand} {tag role verb ent : Int} (ho : o.op = .buildSlice 26 1 #[(0, t)]) (ha : a.eval t = .agg #[.int .i64 tag, .int .i64 role, .int .i64 verb, .int .i64 ent, .int .i64 0, .int .i64 0, .bool false, .int .u64 0, .int .u64 0, .int .i64 0, .int .u64 0, .int .i64 0]) :
    (execOp a.eval o).run Try.prog X = .ok (.value (.slice (some ⟨X.heap.size, 0, none⟩) 1 1)) (X.alloc (.cells #[.int .i64 tag, .int .i64 role, .int .i64 verb, .int .i64 ent, .int .i64 0, .int .i64 0, .bool false, .int .u64 0, .int .u64 0, .int .i64 0, .int .u64 0, .int .i64 0] 38)) := by
  unfold execOp
  rw [ho]
  generalize hv : a.eval = ev at ha ⊢
  simp [go_sem, ha]
theorem wrapI {m : Int} (h1 : -1000000 ≤ m) (h2 : m ≤ 1000000) : IntKind.i64.wrap m = m := by
  simp [IntKind.wrap, IntKind.signed, IntKind.bits]
  omega
theorem add_at (g o j : Nat) : (⟨g, o, none⟩ : Addr).add j = ⟨g, o + j, none⟩ := by
  by_cases hz : j = 0
  · subst hz; simp [Addr.add]
  · simp [Addr.add, hz]
/-- Append to a row that is not nil; of none, too. -/
theorem app_keep (w : World) {TS E : TypeId} {z : Value} {size bytes : Nat} (hts : Try.prog.underlying TS = some (.slice E)) (hie : (Try.prog.info? E).map (fun i => (i.zero, i.size, i.bytes)) = some (some z, size, bytes)) (hzs : z.cells.size = size) (hsz : 0 < size) (hby : bytes ≤ 1000)
    {base n : Nat} {v : Value} {xs : List Value} (h : w.ownsRow base E size v n xs) (hv : v ≠ .slice none 0 0) (a : Addr) (m c : Nat) (news : List Value) (hl : news.length = m * size) (hnews : ∀ (j : Nat) u, news[j]? = some u → w.cell? (a.add j) = some u) (h1 : ∀ u ∈ news, u.oneCell' = true)
    (hn : n + m ≤ 1000000) (hB : base ≤ w.heap.size) (ty : TypeId) :
    ∃ g' c' w', (Builtin.append_ #[TS, TS] ty #[v, .slice (some a) m c]).run Try.prog w = .ok (.slice (some ⟨g', 0, none⟩) (n + m) c') w' ∧ w'.ownsRow base E size (.slice (some ⟨g', 0, none⟩) (n + m) c') (n + m) (xs ++ news) ∧ w.grownBy w' v.ownBlock := by
  obtain ⟨i0, hi, hz0, hz1, hz2⟩ := info_parts hie
  have hbb : (n + m) * bytes ≤ 1000000 * 1000 := Nat.mul_le_mul hn hby
  obtain ⟨v', w', hr, ho, hg, hnil⟩ := run_append_own (P := Try.prog) w base TS ty E i0 z size bytes hts hi hz0 hz1 hz2 hzs hsz v n xs h a m c news hl hnews h1 (by unfold maxLen; omega) (by omega) hB
  rcases ho.2 with ⟨rfl, _⟩ | ⟨g', c', cur, rfl, _⟩
  · exact absurd (hnil.1 rfl).1 hv
  · exact ⟨g', c', w', hr, ho, hg⟩
/-- As RowsW.rd; with the rooms. -/
theorem RowsW.rdc {B : Nat} {w : World} {R : Row5} {P : PolP} (h : RowsW B w R P) : ∃ s : Slp, R.e = .slice s.Ae P.ents.length s.ce ∧ R.g = .slice s.Ag P.grp.length s.cg ∧ R.h = .slice s.Ah P.who.length s.ch ∧ R.u = .slice s.Au P.up.length s.cu ∧ R.r = .slice s.Ar P.rules.length s.cr ∧ PolRd w w.heap.size s P ∧ P.who.length ≤ s.ch ∧ P.rules.length ≤ s.cr := by
  obtain ⟨A1, c1, e1, _, r1⟩ := own_rd h.1
  obtain ⟨A2, c2, e2, _, r2⟩ := own_rd h.2.1
  obtain ⟨A3, c3, e3, l3, r3⟩ := own_rd h.2.2.1
  obtain ⟨A4, c4, e4, l4, r4⟩ := own_rd h.2.2.2.1
  obtain ⟨A5, c5, e5, l5, r5⟩ := own_rd h.2.2.2.2
  exact ⟨⟨A1, c1, A2, c2, A3, c3, A4, c4, A5, c5⟩, e1, e2, e3, e4, e5, ⟨r1, r2, r3, rd_il r4 rfl l4, r5⟩, l3, l5⟩
theorem rd_add {w : World} {B g o n : Nat} {vs : List Value} (h : RdR w B (some ⟨g, o, none⟩) n vs) (hn : 0 < n) : ∀ (j : Nat) u, vs[j]? = some u → w.cell? ((⟨g, o, none⟩ : Addr).add j) = some u := fun j u hu => by
  obtain ⟨g', o', e, _, hc⟩ := h hn
  injection e with e
  injection e with e1 e2
  subst e1
  subst e2
  rw [add_at]
  exact hc j u hu
theorem rd_drop {w : World} {B g o ok n k : Nat} {l : List RuleP} (h : RdR w B (some ⟨g, o, none⟩) n (l.flatMap ruleV)) (hl : l.length = n) (hn : 0 < n) (hk : k < n → ok = o + k * 12) : ∀ (j : Nat) u, ((l.drop k).flatMap ruleV)[j]? = some u → w.cell? ((⟨g, ok, none⟩ : Addr).add j) = some u := fun j u hu => by
  have e : l.flatMap ruleV = (l.take k).flatMap ruleV ++ (l.drop k).flatMap ruleV := by rw [← List.flatMap_append, List.take_append_drop]
  rcases Nat.lt_or_ge k n with hlt | hge
  · rw [hk hlt, add_at]
    have hx := rd_add h hn (k * 12 + j) u (by
      rw [e, List.getElem?_append_right (by rw [flat_len ruleV 12 len_rule, List.length_take]; omega), flat_len ruleV 12 len_rule, List.length_take, hl, Nat.min_eq_left (by omega), Nat.add_sub_cancel_left]
      exact hu)
    rw [add_at] at hx
    rw [Nat.add_assoc]
    exact hx
  · rw [List.drop_eq_nil_of_le (by omega)] at hu
    simp at hu
theorem rd_take {w : World} {B g o n k : Nat} {l : List RuleP} (h : RdR w B (some ⟨g, o, none⟩) n (l.flatMap ruleV)) (hn : 0 < n) : ∀ (j : Nat) u, ((l.take k).flatMap ruleV)[j]? = some u → w.cell? ((⟨g, o, none⟩ : Addr).add j) = some u := fun j u hu => by
  refine rd_add h hn j u ?_
  have e : l.flatMap ruleV = (l.take k).flatMap ruleV ++ (l.drop k).flatMap ruleV := by rw [← List.flatMap_append, List.take_append_drop]
  rw [e, List.getElem?_append_left (List.getElem?_eq_some_iff.1 hu).1]
  exact hu
theorem rules_ones (l : List RuleP) : ∀ u ∈ l.flatMap ruleV, u.oneCell' = true := fun u hu => by
  obtain ⟨r, _, h⟩ := List.mem_flatMap.1 hu
  exact ruleV_ones r u h
theorem blk_add {w : World} {g : Nat} {T : TypeId} {cs : Array Value} (h : Blk w g T cs) : ∀ (j : Nat) u, cs.toList[j]? = some u → w.cell? ((⟨g, 0, none⟩ : Addr).add j) = some u := fun j u hu => by
  rw [add_at, Nat.zero_add, h.cell j, ← hu]
  simp
theorem own_rd2 {w : World} {B n size c g o : Nat} {E : TypeId} {xs : List Value} (h : w.ownsRow B E size (.slice (some ⟨g, o, none⟩) n c) n xs) : RdR w w.heap.size (some ⟨g, o, none⟩) n xs := by
  obtain ⟨A, c', e, _, hr⟩ := own_rd h
  injection e with e1 e2 e3
  rw [← e1] at hr
  exact hr
/-- A policy of other rules lies in block gq; below it all is as it was. -/
def DenQ (W : World) (s : Slp) (ne ng nh nu gq nl : Nat) (l : List RuleP) (wx : World) : Prop := ∃ g c, Blk wx gq 28 #[.slice s.Ae ne s.ce, .slice s.Ag ng s.cg, .slice s.Ah nh s.ch, .slice s.Au nu s.cu, .slice (some ⟨g, 0, none⟩) nl c] ∧ RdR wx wx.heap.size (some ⟨g, 0, none⟩) nl (l.flatMap ruleV) ∧ Below gq W wx
set_option maxRecDepth 100000 in
set_option maxHeartbeats 6400000 in
theorem ruleDenies_c (A0 : Option Addr) (n0 c0 : Nat) (xs : List Int) (a1 a2 a3 a4 a5 a6 : Int) (w : World) (hL : IL w w.heap.size A0 n0 c0 xs) (hn0 : n0 ≤ 9223372036854775807) :
    Calls Try.prog 3 #[.slice A0 n0 c0, .int .i64 a1, .int .i64 a2, .int .i64 a3, .int .i64 a4, .int .i64 a5, .int .i64 a6] w (RetB w true) := by
  have HPO := Lib.hid (policy_c A0 n0 c0 xs w hL hn0)
  have HKN := Lib.hid (fun V : World => known_c V)
  clear hL
  go_enter Try.func3, Try.ntmps3
  go_wp2_with fail
  (with_reducible refine HPO.out.mono ?_)
  rintro e w1 ⟨R, P, rfl, hR, hG, hb⟩
  obtain ⟨s, e1, e2, e3, e4, e5, hrd, hch, hcr⟩ := hR.rdc
  have hright := hG.right
  have hwd := hG.wd
  obtain ⟨ne, hne⟩ : ∃ n, P.ents.length = n := ⟨_, rfl⟩
  obtain ⟨ng, hng⟩ : ∃ n, P.grp.length = n := ⟨_, rfl⟩
  obtain ⟨nh, hnh⟩ : ∃ n, P.who.length = n := ⟨_, rfl⟩
  obtain ⟨nu, hnu⟩ : ∃ n, P.up.length = n := ⟨_, rfl⟩
  obtain ⟨nr, hnr⟩ : ∃ n, P.rules.length = n := ⟨_, rfl⟩
  have hsz : (1 ≤ ne ∧ ne ≤ 8) ∧ ng ≤ 4 ∧ (1 ≤ nh ∧ nh ≤ 8) ∧ (1 ≤ nu ∧ nu ≤ 1000) ∧ (7 ≤ nr ∧ nr ≤ 13) := by
    obtain ⟨N, h2, h4, ⟨hn, he⟩, ⟨hg, hg1, hg3⟩, ⟨hu, hu2⟩, ⟨⟨hw, _⟩, hw2, hw4⟩, hr, hr7, hr13⟩ := hG
    omega
  obtain ⟨hse, hsg, hsh, hsu, hsr⟩ := hsz
  rw [hne] at e1; rw [hng] at e2; rw [hnh] at e3; rw [hnu] at e4; rw [hnr] at e5
  obtain ⟨ga, oa, hA⟩ : ∃ g o, s.Ar = some ⟨g, o, none⟩ := by
    obtain ⟨g, o, h, _⟩ := hrd.2.2.2.2 (by omega)
    exact ⟨g, o, h⟩
  rw [hA] at e5
  rw [hnh] at hch
  rw [hnr] at hcr
  rw [e1, e2, e3, e4, e5]
  have HRD := Lib.hid hrd
  have HB1 := Lib.hid hb
  have HRT := Lib.hid hright
  have HWD := Lib.hid hwd
  have HNE := Lib.hid hne
  have HNG := Lib.hid hng
  have HNH := Lib.hid hnh
  have HNU := Lib.hid hnu
  have HNR := Lib.hid hnr
  have HAr := Lib.hid hA
  clear e1 e2 e3 e4 e5 hR hG hb hrd hright hwd hne hng hnh hnu hnr hA R HPO
  obtain ⟨gp, hgp⟩ : ∃ x, w1.heap.size = x := ⟨_, rfl⟩
  obtain ⟨W2, hW2⟩ : ∃ V, w1.alloc (.cells #[.slice s.Ae ne s.ce, .slice s.Ag ng s.cg, .slice s.Ah nh s.ch, .slice s.Au nu s.cu, .slice (some ⟨ga, oa, none⟩) nr s.cr] 28) = V := ⟨_, rfl⟩
  have HP2 := Lib.hid (show Blk W2 gp 28 #[.slice s.Ae ne s.ce, .slice s.Ag ng s.cg, .slice s.Ah nh s.ch, .slice s.Au nu s.cu, .slice (some ⟨ga, oa, none⟩) nr s.cr] from by rw [← hW2, ← hgp]; exact Blk.new _ _ _)
  have HX2 := Lib.hid (show Below w1.heap.size w1 W2 from by rw [← hW2]; exact bel_alloc (Below.refl _ _) _)
  have h2 : W2.heap.size = gp + 1 := by rw [← hW2, ← hgp]; simp
  have HW2 := Lib.hid hW2
  have HGP := Lib.hid hgp
  clear hW2 hgp
  obtain ⟨k1, hk1, hk1'⟩ := pick_n a4 (nh : Int) (by omega)
  obtain ⟨k2, hk2, hk2'⟩ := pick_n a5 (ne : Int) (by omega)
  obtain ⟨k3, hk3, hk3'⟩ := pick_n a2 3 (by omega)
  obtain ⟨rl, hk4, hk4'⟩ := pick_n a1 (nu : Int) (by omega)
  obtain ⟨k5, hk5, hk5'⟩ := pick_n a3 ((ne : Int) + 1) (by omega)
  obtain ⟨k6, hk6, hk6'⟩ := pick_n a6 ((nr : Int) + 1) (by omega)
  have HK1 := Lib.hid (fun V : World => pick_d a4 (nh : Int) (k1 : Int) V (by omega) (by omega) hk1)
  have HK2 := Lib.hid (fun V : World => pick_d a5 (ne : Int) (k2 : Int) V (by omega) (by omega) hk2)
  have HK3 := Lib.hid (fun V : World => pick_d a2 3 (k3 : Int) V (by omega) (by omega) hk3)
  have HK4 := Lib.hid (fun V : World => pick_d a1 (nu : Int) (rl : Int) V (by omega) (by omega) hk4)
  have HK5 := Lib.hid (fun V : World => pick_d a3 ((ne : Int) + 1) (k5 : Int) V (by omega) (by omega) hk5)
  have HK6 := Lib.hid (fun V : World => pick_d a6 ((nr : Int) + 1) (k6 : Int) V (by omega) (by omega) hk6)
  clear hk1 hk2 hk3 hk4 hk5 hk6
  obtain ⟨vb, hvb⟩ : ∃ v : Int, (1 : Int) + (k3 : Int) = v := ⟨_, rfl⟩
  obtain ⟨en, hen⟩ : ∃ v : Int, (k5 : Int) - 1 = v := ⟨_, rfl⟩
  have HVB := Lib.hid (show 1 ≤ vb ∧ vb ≤ 3 by omega)
  have HEN := Lib.hid (show -1 ≤ en ∧ en < (ne : Int) by omega)
  have HRU := Lib.hid (fun (tg : Int) (h1 : 1 ≤ tg) (h2 : tg ≤ 2) => show RulP P.ents.length P.up.length P.grp.length (actR tg (rl : Int) vb en) from ruleOk_right (by rw [HNE.out, HNU.out]; exact actR_ok (by omega) (by omega) h1 h2 HVB.out.1 HVB.out.2 HEN.out.1 HEN.out.2))
  obtain ⟨x, hx⟩ := get_at (l := P.who) (k := k1) (by rw [HNH.out]; omega)
  have HX := Lib.hid hx
  -- what one may, of whatever rules
  have HMAY := Lib.hid (fun (V : World) (A : Option Addr) (c : Nat) (l : List RuleP) (nl : Nat) (hl : l.length = nl) (hb : Below w1.heap.size w1 V) (hr : RdR V V.heap.size A nl (l.flatMap ruleV)) (h32 : nl ≤ 32) (hall : AllI_ (fun _ r => RulP P.ents.length P.up.length P.grp.length r) l) (hw : ∀ r ∈ l, RuleW r) (q : Bool) (hq : mayL (withR P l) x.ro vb (k2 : Int) = q) =>
    show Calls Try.prog 6 #[.agg #[.slice s.Ae ne s.ce, .slice s.Ag ng s.cg, .slice s.Ah nh s.ch, .slice s.Au nu s.cu, .slice A nl c], .int .i64 (k1 : Int), .int .i64 vb, .int .i64 (k2 : Int)] V (RetB V q) from
      ruMay_c { s with Ar := A, cr := c } (withR P l) V ne ng nh nu nl (rd_with ((HRD.out.below hb).more hb.size) c (by rw [hl]; exact hr)) (wd_with HWD.out (by omega) hw) HNE.out HNG.out HNH.out HNU.out hl true (by simp [right_with HRT.out (by omega) hall]) (k1 : Int) vb (k2 : Int) q (by
        unfold mayB whoAt
        show (true && (decide (0 ≤ (k1 : Int)) && (decide ((k1 : Int) < (P.who.length : Int)) && (decide (0 ≤ (k2 : Int)) && (decide ((k2 : Int) < (P.ents.length : Int)) && mayL (withR P l) ((P.who[(k1 : Int).toNat]?).getD ⟨0, 0, 0⟩).ro vb (k2 : Int)))))) = q
        rw [decide_eq_true (show (0 : Int) ≤ (k1 : Int) by omega), decide_eq_true (show (k1 : Int) < (P.who.length : Int) by rw [HNH.out]; exact hk1'), decide_eq_true (show (0 : Int) ≤ (k2 : Int) by omega), decide_eq_true (show (k2 : Int) < (P.ents.length : Int) by rw [HNE.out]; exact hk2'), Int.toNat_natCast, HX.out]
        simpa using hq))
  have HALL := Lib.hid (HRT.out.2.2.2.2)
  have HRW := Lib.hid (HWD.out.2.2.1)
  clear hx
  go_wp2_with fail
  rw [HW2.out, HGP.out]
  (with_reducible refine (HK1.out _).mono ?_)
  rintro e w' ⟨rfl, rfl⟩
  clear HW2
  obtain ⟨l2, y0, y1, y2, y3, y4⟩ := pol5 HP2.out
  go_wp2_with fail
  (with_reducible refine (HK2.out _).mono ?_)
  rintro e w' ⟨rfl, rfl⟩
  go_wp2_with fail
  (with_reducible refine (HK3.out _).mono ?_)
  rintro e w' ⟨rfl, rfl⟩
  go_upto_region 5 with fail
  clear l2 y0 y1 y2 y3 y4
  obtain ⟨gr, hgr⟩ : ∃ g, W2.heap.size = g := ⟨_, rfl⟩
  obtain ⟨W3, hW3⟩ : ∃ V, (W2.alloc (.cells #[.int .i64 2, .int .i64 (rl : Int), .int .i64 vb, .int .i64 en, .int .i64 0, .int .i64 0, .bool false, .int .u64 0, .int .u64 0, .int .i64 0, .int .u64 0, .int .i64 0] 38)).drew = V := ⟨_, rfl⟩
  have HR3 := Lib.hid (show Blk W3 gr 38 #[.int .i64 2, .int .i64 (rl : Int), .int .i64 vb, .int .i64 en, .int .i64 0, .int .i64 0, .bool false, .int .u64 0, .int .u64 0, .int .i64 0, .int .u64 0, .int .i64 0] from by rw [← hW3, ← hgr]; exact Blk.new _ _ _)
  have HX3 := Lib.hid (show Below W2.heap.size W2 W3 from by rw [← hW3]; exact (bel_alloc (Below.refl W2.heap.size W2) _).drew)
  have HP3 := Lib.hid (HP2.out.below HX3.out HP2.out.lt)
  have h3 : W3.heap.size = gr + 1 := by rw [← hW3, ← hgr]; simp
  have HW3 := Lib.hid hW3
  have HGR := Lib.hid hgr
  clear hW3
  refine wp_region_ordz (S := fun V => Below W2.heap.size W2 V) (z := 15) (by kernel_rfl) ?_
  refine ordz_take (v := ?_) (i := 0) (fuel := 15) (by simp; rfl) (by kernel_rfl) (by kernel_rfl) (by kernel_rfl) (by kernel_rfl) (Or.inl ⟨by rfl, fun w' hSw => ?_⟩) (Below.refl W2.heap.size W2).drew ?_
  rotate_left
  · go_simp
    all_goals with_reducible rfl
  simp only [Act.put, List.setIfInBounds_toArray, List.set_cons_zero, List.set_cons_succ]
  refine ordz_take (v := ?_) (i := 1) (fuel := 14) (by simp; rfl) (by kernel_rfl) (by kernel_rfl) (by kernel_rfl) (by kernel_rfl) (Or.inl ⟨by rfl, fun w' hSw => ?_⟩) (Below.refl W2.heap.size W2).drew ?_
  rotate_left
  · go_simp
    all_goals with_reducible rfl
  simp only [Act.put, List.setIfInBounds_toArray, List.set_cons_zero, List.set_cons_succ]
  refine ordz_take (v := ?_) (i := 2) (fuel := 13) (by simp; rfl) (by kernel_rfl) (by kernel_rfl) (by kernel_rfl) (by kernel_rfl) (Or.inl ⟨by rfl, fun w' hSw => ?_⟩) (Below.refl W2.heap.size W2).drew ?_
  rotate_left
  · obtain ⟨l2, y0, y1, y2, y3, y4⟩ := pol5 (HP2.out.below hSw HP2.out.lt)
    go_simp
    all_goals with_reducible rfl
  simp only [Act.put, List.setIfInBounds_toArray, List.set_cons_zero, List.set_cons_succ]
  refine ordz_take (v := ?_) (i := 3) (fuel := 12) (by simp; rfl) (by kernel_rfl) (by kernel_rfl) (by kernel_rfl) (by kernel_rfl) (Or.inl ⟨by rfl, fun w' hSw => ?_⟩) (Below.refl W2.heap.size W2).drew ?_
  rotate_left
  · go_simp
    all_goals with_reducible rfl
  simp only [Act.put, List.setIfInBounds_toArray, List.set_cons_zero, List.set_cons_succ]
  refine ordc_take (v := ?_) (i := 4) (fuel := 11) (by simp; rfl) (by kernel_rfl) (by kernel_rfl) (by kernel_rfl) (by kernel_rfl) ⟨by rfl, 5, #[.int .i64 a1, .int .i64 (nu : Int)], fun w' hSw => ⟨?_, ?_⟩⟩ (Below.refl W2.heap.size W2).drew ?_
  rotate_left
  · go_simp
    all_goals with_reducible rfl
  · exact HK4.out w'
  simp only [Act.put, List.setIfInBounds_toArray, List.set_cons_zero, List.set_cons_succ]
  refine ordz_take (v := ?_) (i := 5) (fuel := 10) (by simp; rfl) (by kernel_rfl) (by kernel_rfl) (by kernel_rfl) (by kernel_rfl) (Or.inl ⟨by rfl, fun w' hSw => ?_⟩) (Below.refl W2.heap.size W2).drew ?_
  rotate_left
  · go_simp
    all_goals with_reducible rfl
  simp only [Act.put, List.setIfInBounds_toArray, List.set_cons_zero, List.set_cons_succ]
  refine ordz_take (v := ?_) (i := 6) (fuel := 9) (by simp; rfl) (by kernel_rfl) (by kernel_rfl) (by kernel_rfl) (by kernel_rfl) (Or.inl ⟨by rfl, fun w' hSw => ?_⟩) (Below.refl W2.heap.size W2).drew ?_
  rotate_left
  · go_simp
    all_goals with_reducible rfl
  simp only [Act.put, List.setIfInBounds_toArray, List.set_cons_zero, List.set_cons_succ]
  refine ordz_take (v := ?_) (i := 7) (fuel := 8) (by simp; rfl) (by kernel_rfl) (by kernel_rfl) (by kernel_rfl) (by kernel_rfl) (Or.inl ⟨by rfl, fun w' hSw => ?_⟩) (Below.refl W2.heap.size W2).drew ?_
  rotate_left
  · go_simp
    all_goals with_reducible rfl
  simp only [Act.put, List.setIfInBounds_toArray, List.set_cons_zero, List.set_cons_succ]
  refine ordz_take (v := ?_) (i := 8) (fuel := 7) (by simp; rfl) (by kernel_rfl) (by kernel_rfl) (by kernel_rfl) (by kernel_rfl) (Or.inl ⟨by rfl, fun w' hSw => ?_⟩) (Below.refl W2.heap.size W2).drew ?_
  rotate_left
  · obtain ⟨l2, y0, y1, y2, y3, y4⟩ := pol5 (HP2.out.below hSw HP2.out.lt)
    go_simp
    all_goals with_reducible rfl
  simp only [Act.put, List.setIfInBounds_toArray, List.set_cons_zero, List.set_cons_succ]
  refine ordz_take (v := ?_) (i := 9) (fuel := 6) (by simp; rfl) (by kernel_rfl) (by kernel_rfl) (by kernel_rfl) (by kernel_rfl) (Or.inl ⟨by rfl, fun w' hSw => ?_⟩) (Below.refl W2.heap.size W2).drew ?_
  rotate_left
  · go_simp
    all_goals with_reducible rfl
  simp only [Act.put, List.setIfInBounds_toArray, List.set_cons_zero, List.set_cons_succ]
  refine ordz_take (v := ?_) (i := 10) (fuel := 5) (by simp; rfl) (by kernel_rfl) (by kernel_rfl) (by kernel_rfl) (by kernel_rfl) (Or.inl ⟨by rfl, fun w' hSw => ?_⟩) (Below.refl W2.heap.size W2).drew ?_
  rotate_left
  · have hq := wrapI (m := (ne : Int) + 1) (by omega) (by omega)
    go_simp
    all_goals with_reducible rfl
  simp only [Act.put, List.setIfInBounds_toArray, List.set_cons_zero, List.set_cons_succ]
  refine ordc_take (v := ?_) (i := 11) (fuel := 4) (by simp; rfl) (by kernel_rfl) (by kernel_rfl) (by kernel_rfl) (by kernel_rfl) ⟨by rfl, 5, #[.int .i64 a3, .int .i64 ((ne : Int) + 1)], fun w' hSw => ⟨?_, ?_⟩⟩ (Below.refl W2.heap.size W2).drew ?_
  rotate_left
  · go_simp
    all_goals with_reducible rfl
  · exact HK5.out w'
  simp only [Act.put, List.setIfInBounds_toArray, List.set_cons_zero, List.set_cons_succ]
  refine ordz_take (v := ?_) (i := 12) (fuel := 3) (by simp; rfl) (by kernel_rfl) (by kernel_rfl) (by kernel_rfl) (by kernel_rfl) (Or.inl ⟨by rfl, fun w' hSw => ?_⟩) (Below.refl W2.heap.size W2).drew ?_
  rotate_left
  · have hq := wrapI (m := en) (by omega) (by omega)
    go_simp
    all_goals with_reducible rfl
  simp only [Act.put, List.setIfInBounds_toArray, List.set_cons_zero, List.set_cons_succ]
  refine ordz_take (v := ?_) (i := 13) (fuel := 2) (by simp; rfl) (by kernel_rfl) (by kernel_rfl) (by kernel_rfl) (by kernel_rfl) (Or.inl ⟨by rfl, fun w' hSw => ?_⟩) (Below.refl W2.heap.size W2).drew ?_
  rotate_left
  · go_simp
    all_goals with_reducible rfl
  simp only [Act.put, List.setIfInBounds_toArray, List.set_cons_zero, List.set_cons_succ]
  refine ordz_only (v := .pointer (some ⟨gr, 0, none⟩)) (w' := W2.drew.alloc (.cells #[.int .i64 0, .int .i64 0, .int .i64 0, .int .i64 0, .int .i64 0, .int .i64 0, .bool false, .int .u64 0, .int .u64 0, .int .i64 0, .int .u64 0, .int .i64 0] 38)) (i := 14) (fuel := 1) (by simp; rfl) (by kernel_rfl) (by rfl) ?_ (.inr (bel_alloc (Below.refl W2.heap.size W2) _).drew) ?_
  · rw [← hgr]
    go_simp
    all_goals with_reducible rfl
  simp only [Act.put, List.setIfInBounds_toArray, List.set_cons_zero, List.set_cons_succ]
  refine ordz_skip (w' := (W2.alloc (.cells #[.int .i64 2, .int .i64 (rl : Int), .int .i64 vb, .int .i64 en, .int .i64 0, .int .i64 0, .bool false, .int .u64 0, .int .u64 0, .int .i64 0, .int .u64 0, .int .i64 0] 38)).drew) (i := 15) (fuel := 0) (by simp; rfl) (by kernel_rfl) (by rfl) (by rfl) ?_ (.inl rfl) ?_
  · rw [← hgr]
    go_simp
    all_goals with_reducible rfl
  refine ordz_done (by kernel_rfl) ?_ _
  rw [HW3.out]
  have HXA := Lib.hid (HX2.out.trans (HX3.out.mono HX2.out.size))
  have HRR := Lib.hid (fun (V : World) (hb : Below w1.heap.size w1 V) => show RdR V V.heap.size (some ⟨ga, oa, none⟩) nr (P.rules.flatMap ruleV) from by have h := ((HRD.out.below hb).more hb.size).2.2.2.2; rw [HAr.out, HNR.out] at h; exact h)
  obtain ⟨m0, hm0⟩ : ∃ b, mayL P x.ro vb (k2 : Int) = b := ⟨_, rfl⟩
  have HM0 := Lib.hid (HMAY.out W3 (some ⟨ga, oa, none⟩) s.cr P.rules nr HNR.out HXA.out (HRR.out W3 HXA.out) (by omega) HALL.out HRW.out m0 hm0)
  have HV0 := Lib.hid hm0
  clear hm0
  obtain ⟨l2, y0, y1, y2, y3, y4⟩ := pol5 HP3.out
  go_wp2_with fail
  (with_reducible refine HM0.out.mono ?_)
  rintro e w4 ⟨rfl, hb⟩
  have HX4 := Lib.hid (HXA.out.trans (hb.mono HXA.out.size))
  have HP4 := Lib.hid (HP3.out.below hb HP3.out.lt)
  have HR4 := Lib.hid (HR3.out.below hb HR3.out.lt)
  clear hb l2 y0 y1 y2 y3 y4 HM0 hgr
  obtain ⟨l2, y0, y1, y2, y3, y4⟩ := pol5 HP4.out
  obtain ⟨gq, hgq⟩ : ∃ g, w4.heap.size = g := ⟨_, rfl⟩
  obtain ⟨W5, hW5⟩ : ∃ V, w4.alloc (.cells #[.slice s.Ae ne s.ce, .slice s.Ag ng s.cg, .slice s.Ah nh s.ch, .slice s.Au nu s.cu, .slice (some ⟨ga, oa, none⟩) nr s.cr] 28) = V := ⟨_, rfl⟩
  have HQ5 := Lib.hid (show Blk W5 gq 28 #[.slice s.Ae ne s.ce, .slice s.Ag ng s.cg, .slice s.Ah nh s.ch, .slice s.Au nu s.cu, .slice (some ⟨ga, oa, none⟩) nr s.cr] from by rw [← hW5, ← hgq]; exact Blk.new _ _ _)
  have HX5 := Lib.hid (show Below w1.heap.size w1 W5 from by rw [← hW5]; exact bel_alloc HX4.out _)
  have HP5 := Lib.hid (show Blk W5 gp 28 #[.slice s.Ae ne s.ce, .slice s.Ag ng s.cg, .slice s.Ah nh s.ch, .slice s.Au nu s.cu, .slice (some ⟨ga, oa, none⟩) nr s.cr] from by rw [← hW5]; exact HP4.out.alloc _)
  have HR5 := Lib.hid (show Blk W5 gr 38 #[.int .i64 2, .int .i64 (rl : Int), .int .i64 vb, .int .i64 en, .int .i64 0, .int .i64 0, .bool false, .int .u64 0, .int .u64 0, .int .i64 0, .int .u64 0, .int .i64 0] from by rw [← hW5]; exact HR4.out.alloc _)
  have HGG := Lib.hid (show gp < gq ∧ gr < gq ∧ gp ≠ gr from by rw [← hgq]; exact ⟨HP4.out.lt, HR4.out.lt, by have := HP2.out.lt; have := HGR.out; omega⟩)
  have HW5 := Lib.hid hW5
  have HGQ := Lib.hid hgq
  clear hW5 hgq
  go_upto_region 8 with fail
  rw [HGQ.out, HW5.out]
  clear l2 y0 y1 y2 y3 y4 HW5
  go_cut [66] (fun _ wx => DenQ W5 s ne ng nh nu gq (nr + 1) (P.rules ++ [actR 2 (rl : Int) vb en]) wx)
  case first =>
    as_aux_lemma =>
      have hgbl : gq < W5.heap.size := HQ5.out.lt
      refine wp_region_ordz (S := fun V => Below W5.heap.size W5 V) (z := 8) (by kernel_rfl) ?_
      refine ordz_take (v := ?_) (i := 1) (fuel := 8) (by simp; rfl) (by kernel_rfl) (by kernel_rfl) (by kernel_rfl) (by kernel_rfl) (Or.inl ⟨by rfl, fun w' hSw => ?_⟩) (Below.refl W5.heap.size W5).drew ?_
      rotate_left
      · go_simp
        all_goals with_reducible rfl
      simp only [Act.put, List.setIfInBounds_toArray, List.set_cons_zero, List.set_cons_succ]
      refine ordz_take (v := ?_) (i := 2) (fuel := 7) (by simp; rfl) (by kernel_rfl) (by kernel_rfl) (by kernel_rfl) (by kernel_rfl) (Or.inl ⟨by rfl, fun w' hSw => ?_⟩) (Below.refl W5.heap.size W5).drew ?_
      rotate_left
      · obtain ⟨l2, y0, y1, y2, y3, y4⟩ := pol5 (HP5.out.below hSw HP5.out.lt)
        go_simp
        all_goals with_reducible rfl
      simp only [Act.put, List.setIfInBounds_toArray, List.set_cons_zero, List.set_cons_succ]
      refine ordz_take (v := ?_) (i := 4) (fuel := 6) (by simp; rfl) (by kernel_rfl) (by kernel_rfl) (by kernel_rfl) (by kernel_rfl) (Or.inl ⟨by rfl, fun w' hSw => ?_⟩) (Below.refl W5.heap.size W5).drew ?_
      rotate_left
      · have z0 : w'.cell? ⟨gr, 0, none⟩ = some (.int .i64 2) := ((HR5.out.below hSw HR5.out.lt).cell 0).trans rfl
        have z1 : w'.cell? ⟨gr, 1, none⟩ = some (.int .i64 (rl : Int)) := ((HR5.out.below hSw HR5.out.lt).cell 1).trans rfl
        have z2 : w'.cell? ⟨gr, 2, none⟩ = some (.int .i64 vb) := ((HR5.out.below hSw HR5.out.lt).cell 2).trans rfl
        have z3 : w'.cell? ⟨gr, 3, none⟩ = some (.int .i64 en) := ((HR5.out.below hSw HR5.out.lt).cell 3).trans rfl
        have z4 : w'.cell? ⟨gr, 4, none⟩ = some (.int .i64 0) := ((HR5.out.below hSw HR5.out.lt).cell 4).trans rfl
        have z5 : w'.cell? ⟨gr, 5, none⟩ = some (.int .i64 0) := ((HR5.out.below hSw HR5.out.lt).cell 5).trans rfl
        have z6 : w'.cell? ⟨gr, 6, none⟩ = some (.bool false) := ((HR5.out.below hSw HR5.out.lt).cell 6).trans rfl
        have z7 : w'.cell? ⟨gr, 7, none⟩ = some (.int .u64 0) := ((HR5.out.below hSw HR5.out.lt).cell 7).trans rfl
        have z8 : w'.cell? ⟨gr, 8, none⟩ = some (.int .u64 0) := ((HR5.out.below hSw HR5.out.lt).cell 8).trans rfl
        have z9 : w'.cell? ⟨gr, 9, none⟩ = some (.int .i64 0) := ((HR5.out.below hSw HR5.out.lt).cell 9).trans rfl
        have z10 : w'.cell? ⟨gr, 10, none⟩ = some (.int .u64 0) := ((HR5.out.below hSw HR5.out.lt).cell 10).trans rfl
        have z11 : w'.cell? ⟨gr, 11, none⟩ = some (.int .i64 0) := ((HR5.out.below hSw HR5.out.lt).cell 11).trans rfl
        have zl := (HR5.out.below hSw HR5.out.lt).lt
        go_simp
        all_goals with_reducible rfl
      simp only [Act.put, List.setIfInBounds_toArray, List.set_cons_zero, List.set_cons_succ]
      refine ordz_two (i := 0) (j := 5) (fuel := 5) (by kernel_rfl) ?_ ?_
      · as_aux_lemma =>
        obtain ⟨Wa, hWa⟩ : ∃ V, W5.drew.alloc (.cells #[] 38) = V := ⟨_, rfl⟩
        obtain ⟨g0, hg0⟩ : ∃ g, W5.heap.size = g := ⟨_, rfl⟩
        have HSa := Lib.hid (show Below W5.heap.size W5 Wa from by rw [← hWa]; exact bel_alloc (Below.refl W5.heap.size W5).drew _)
        have HOa := Lib.hid (show Wa.ownsRow W5.heap.size 38 12 (.slice (some ⟨g0, 0, none⟩) 0 0) 0 [] from by rw [← hWa, ← hg0]; exact own_new W5.drew (B := W5.heap.size) (m := 0) (size := 12) (vs := []) rfl ((Below.refl W5.heap.size W5).drew).size rfl (by decide))
        have HWa := Lib.hid hWa
        have HG0 := Lib.hid hg0
        clear hWa hg0
        refine ordIz_only (v := .slice (some ⟨g0, 0, none⟩) 0 0) (w' := Wa) (by simp; rfl) (by rfl) ?_ (.inr HSa.out) ?_
        · rw [← HWa.out, ← HG0.out]
          go_simp
          all_goals with_reducible rfl
        simp only [Act.put, List.setIfInBounds_toArray, List.set_cons_zero, List.set_cons_succ]
        refine ordz_two (i := 3) (j := 5) (fuel := 4) (by kernel_rfl) ?_ ?_
        · as_aux_lemma =>
          obtain ⟨g3, c3, x3, hrun3, ho3, hg3⟩ := app_keep Wa Try.underlying26 Try.ruleI rfl (by decide) (by decide) HOa.out (by simp) ⟨ga, oa, none⟩ nr s.cr (P.rules.flatMap ruleV) (by rw [flat_len ruleV 12 len_rule, HNR.out]) (rd_add (HRR.out Wa (HX5.out.trans (HSa.out.mono HX5.out.size))) (by omega)) (rules_ones _) (by omega) HSa.out.size 26
          rw [Nat.zero_add] at hrun3 ho3
          rw [List.nil_append] at ho3
          have HS3 := Lib.hid (HSa.out.grown hg3 HSa.out.size (own_base HOa.out))
          have HO3 := Lib.hid ho3
          refine ordIz_only (v := .slice (some ⟨g3, 0, none⟩) nr c3) (w' := x3) (by simp; rfl) (by rfl) ?_ (.inr HS3.out) ?_
          · refine (append_runZ (s := .tmp 60) (x := .tmp 62) (v := .slice (some ⟨g0, 0, none⟩) 0 0) (xv := .slice (some ⟨ga, oa, none⟩) nr s.cr) rfl (by rfl) (by rfl) hrun3).trans ?_
            with_reducible rfl
          simp only [Act.put, List.setIfInBounds_toArray, List.set_cons_zero, List.set_cons_succ]
          have HG3 := Lib.hid hg3
          clear hrun3 ho3 hg3
          obtain ⟨Wb, hWb⟩ : ∃ V, x3.alloc (.cells #[.int .i64 2, .int .i64 (rl : Int), .int .i64 vb, .int .i64 en, .int .i64 0, .int .i64 0, .bool false, .int .u64 0, .int .u64 0, .int .i64 0, .int .u64 0, .int .i64 0] 38) = V := ⟨_, rfl⟩
          obtain ⟨gk, hgk⟩ : ∃ g, x3.heap.size = g := ⟨_, rfl⟩
          have HSb := Lib.hid (show Below W5.heap.size W5 Wb from by rw [← hWb]; exact bel_alloc HS3.out _)
          have HKb := Lib.hid (show Blk Wb gk 38 #[.int .i64 2, .int .i64 (rl : Int), .int .i64 vb, .int .i64 en, .int .i64 0, .int .i64 0, .bool false, .int .u64 0, .int .u64 0, .int .i64 0, .int .u64 0, .int .i64 0] from by rw [← hWb, ← hgk]; exact Blk.new _ _ _)
          have HWb := Lib.hid hWb
          have HGK := Lib.hid hgk
          clear hWb hgk
          refine ordz_only (v := .slice (some ⟨gk, 0, none⟩) 1 1) (w' := Wb) (i := 5) (fuel := 3) (by simp; rfl) (by kernel_rfl) (by rfl) ?_ (.inr HSb.out) ?_
          · rw [← HWb.out, ← HGK.out]
            exact lit_run rfl rfl
          simp only [Act.put, List.setIfInBounds_toArray, List.set_cons_zero, List.set_cons_succ]
          have HO3b := Lib.hid (show Wb.ownsRow _ _ _ _ _ _ from by rw [← HWb.out]; exact own_below HO3.out (bel_alloc (Below.refl _ _) _))
          obtain ⟨g6, c6, x6, hrun6, ho6, hg6⟩ := app_keep Wb Try.underlying26 Try.ruleI rfl (by decide) (by decide) HO3b.out (by simp) ⟨gk, 0, none⟩ 1 1 (ruleV (actR 2 (rl : Int) vb en)) rfl (blk_add HKb.out) (ruleV_ones _) (by omega) HSb.out.size 26
          have HS6 := Lib.hid (HSb.out.grown hg6 HSb.out.size (own_base HO3b.out))
          have HQ6 := Lib.hid (HQ5.out.below HS6.out HQ5.out.lt)
          have hf6 := HQ6.out.frozen 4
          have hl6 := HQ6.out.lt
          have hq6 : x6.cell? ⟨gq, 4, none⟩ = some (.slice (some ⟨ga, oa, none⟩) nr s.cr) := (HQ6.out.cell 4).trans rfl
          refine ordz_only (v := .slice (some ⟨g6, 0, none⟩) (nr + 1) c6) (w' := x6) (i := 6) (fuel := 2) (by simp; rfl) (by kernel_rfl) (by rfl) ?_ (.inr HS6.out) ?_
          · refine (append_runZ (s := .tmp 63) (x := .tmp 65) (v := .slice (some ⟨g3, 0, none⟩) nr c3) (xv := .slice (some ⟨gk, 0, none⟩) 1 1) rfl (by rfl) (by rfl) hrun6).trans ?_
            with_reducible rfl
          simp only [Act.put, List.setIfInBounds_toArray, List.set_cons_zero, List.set_cons_succ]
          refine ordz_take (v := ?_) (i := 7) (fuel := 1) (by simp; rfl) (by kernel_rfl) (by kernel_rfl) (by kernel_rfl) (by kernel_rfl) (Or.inl ⟨by rfl, fun w' hSw => ?_⟩) HS6.out ?_
          rotate_left
          · go_simp
            all_goals with_reducible rfl
          simp only [Act.put, List.setIfInBounds_toArray, List.set_cons_zero, List.set_cons_succ]
          refine ordz_skip (w' := x6.setCell ⟨gq, 4, none⟩ (.slice (some ⟨g6, 0, none⟩) (nr + 1) c6)) (i := 8) (fuel := 0) (by simp; rfl) (by kernel_rfl) (by rfl) (by rfl) ?_ (.inl rfl) ?_
          · go_simp
            all_goals with_reducible rfl
          refine ordz_done (by kernel_rfl) ?_ _
          obtain ⟨W9, hW9⟩ : ∃ V, x6.setCell ⟨gq, 4, none⟩ (.slice (some ⟨g6, 0, none⟩) (nr + 1) c6) = V := ⟨_, rfl⟩
          have HREL := Lib.hid (show DenQ W5 s ne ng nh nu gq (nr + 1) (P.rules ++ [actR 2 (rl : Int) vb en]) W9 from ⟨g6, c6, by rw [← hW9]; have h := HQ6.out.set_ 4 (.slice (some ⟨g6, 0, none⟩) (nr + 1) c6); simpa using h, by rw [← hW9]; have h := own_rd2 (polSet (k := 4) (u := .slice (some ⟨g6, 0, none⟩) (nr + 1) c6) ho6 HQ6.out (by decide)); rw [flat_snoc]; exact h, by rw [← hW9]; exact (HS6.out.mono (Nat.le_of_lt hgbl)).setCell (p := ⟨gq, 4, none⟩) (Nat.le_refl _) _⟩)
          rw [hW9]
          go_wp2_with fail
          go_meet
          case rel => exact HREL.out
        · as_aux_lemma =>
          obtain ⟨Wb, hWb⟩ : ∃ V, Wa.alloc (.cells #[.int .i64 2, .int .i64 (rl : Int), .int .i64 vb, .int .i64 en, .int .i64 0, .int .i64 0, .bool false, .int .u64 0, .int .u64 0, .int .i64 0, .int .u64 0, .int .i64 0] 38) = V := ⟨_, rfl⟩
          obtain ⟨gk, hgk⟩ : ∃ g, Wa.heap.size = g := ⟨_, rfl⟩
          have HSb := Lib.hid (show Below W5.heap.size W5 Wb from by rw [← hWb]; exact bel_alloc HSa.out _)
          have HKb := Lib.hid (show Blk Wb gk 38 #[.int .i64 2, .int .i64 (rl : Int), .int .i64 vb, .int .i64 en, .int .i64 0, .int .i64 0, .bool false, .int .u64 0, .int .u64 0, .int .i64 0, .int .u64 0, .int .i64 0] from by rw [← hWb, ← hgk]; exact Blk.new _ _ _)
          have HWb := Lib.hid hWb
          have HGK := Lib.hid hgk
          clear hWb hgk
          refine ordIz_only (v := .slice (some ⟨gk, 0, none⟩) 1 1) (w' := Wb) (by simp; rfl) (by rfl) ?_ (.inr HSb.out) ?_
          · rw [← HWb.out, ← HGK.out]
            exact lit_run rfl rfl
          simp only [Act.put, List.setIfInBounds_toArray, List.set_cons_zero, List.set_cons_succ]
          have HOb := Lib.hid (show Wb.ownsRow _ _ _ _ _ _ from by rw [← HWb.out]; exact own_below HOa.out (bel_alloc (Below.refl _ _) _))
          have hne0 : g0 < gk := by rw [← HGK.out]; exact own_block HOa.out g0 (by simp [Value.ownBlock])
          obtain ⟨g3, c3, x3, hrun3, ho3, hg3⟩ := app_keep Wb Try.underlying26 Try.ruleI rfl (by decide) (by decide) HOb.out (by simp) ⟨ga, oa, none⟩ nr s.cr (P.rules.flatMap ruleV) (by rw [flat_len ruleV 12 len_rule, HNR.out]) (rd_add (HRR.out Wb (HX5.out.trans (HSb.out.mono HX5.out.size))) (by omega)) (rules_ones _) (by omega) HSb.out.size 26
          rw [Nat.zero_add] at hrun3 ho3
          rw [List.nil_append] at ho3
          have HS3 := Lib.hid (HSb.out.grown hg3 HSb.out.size (own_base HOb.out))
          have HO3 := Lib.hid ho3
          refine ordz_only (v := .slice (some ⟨g3, 0, none⟩) nr c3) (w' := x3) (i := 3) (fuel := 3) (by simp; rfl) (by kernel_rfl) (by rfl) ?_ (.inr HS3.out) ?_
          · refine (append_runZ (s := .tmp 60) (x := .tmp 62) (v := .slice (some ⟨g0, 0, none⟩) 0 0) (xv := .slice (some ⟨ga, oa, none⟩) nr s.cr) rfl (by rfl) (by rfl) hrun3).trans ?_
            with_reducible rfl
          simp only [Act.put, List.setIfInBounds_toArray, List.set_cons_zero, List.set_cons_succ]
          have HG3 := Lib.hid hg3
          clear hrun3 ho3 hg3
          have HK3 := Lib.hid (show Blk x3 gk 38 #[.int .i64 2, .int .i64 (rl : Int), .int .i64 vb, .int .i64 en, .int .i64 0, .int .i64 0, .bool false, .int .u64 0, .int .u64 0, .int .i64 0, .int .u64 0, .int .i64 0] from (HG3.out.block gk HKb.out.lt (by simp [Value.ownBlock]; omega)).trans HKb.out)
          obtain ⟨g6, c6, x6, hrun6, ho6, hg6⟩ := app_keep x3 Try.underlying26 Try.ruleI rfl (by decide) (by decide) HO3.out (by simp) ⟨gk, 0, none⟩ 1 1 (ruleV (actR 2 (rl : Int) vb en)) rfl (blk_add HK3.out) (ruleV_ones _) (by omega) HS3.out.size 26
          have HS6 := Lib.hid (HS3.out.grown hg6 HS3.out.size (own_base HO3.out))
          have HQ6 := Lib.hid (HQ5.out.below HS6.out HQ5.out.lt)
          have hf6 := HQ6.out.frozen 4
          have hl6 := HQ6.out.lt
          have hq6 : x6.cell? ⟨gq, 4, none⟩ = some (.slice (some ⟨ga, oa, none⟩) nr s.cr) := (HQ6.out.cell 4).trans rfl
          refine ordz_only (v := .slice (some ⟨g6, 0, none⟩) (nr + 1) c6) (w' := x6) (i := 6) (fuel := 2) (by simp; rfl) (by kernel_rfl) (by rfl) ?_ (.inr HS6.out) ?_
          · refine (append_runZ (s := .tmp 63) (x := .tmp 65) (v := .slice (some ⟨g3, 0, none⟩) nr c3) (xv := .slice (some ⟨gk, 0, none⟩) 1 1) rfl (by rfl) (by rfl) hrun6).trans ?_
            with_reducible rfl
          simp only [Act.put, List.setIfInBounds_toArray, List.set_cons_zero, List.set_cons_succ]
          refine ordz_take (v := ?_) (i := 7) (fuel := 1) (by simp; rfl) (by kernel_rfl) (by kernel_rfl) (by kernel_rfl) (by kernel_rfl) (Or.inl ⟨by rfl, fun w' hSw => ?_⟩) HS6.out ?_
          rotate_left
          · go_simp
            all_goals with_reducible rfl
          simp only [Act.put, List.setIfInBounds_toArray, List.set_cons_zero, List.set_cons_succ]
          refine ordz_skip (w' := x6.setCell ⟨gq, 4, none⟩ (.slice (some ⟨g6, 0, none⟩) (nr + 1) c6)) (i := 8) (fuel := 0) (by simp; rfl) (by kernel_rfl) (by rfl) (by rfl) ?_ (.inl rfl) ?_
          · go_simp
            all_goals with_reducible rfl
          refine ordz_done (by kernel_rfl) ?_ _
          obtain ⟨W9, hW9⟩ : ∃ V, x6.setCell ⟨gq, 4, none⟩ (.slice (some ⟨g6, 0, none⟩) (nr + 1) c6) = V := ⟨_, rfl⟩
          have HREL := Lib.hid (show DenQ W5 s ne ng nh nu gq (nr + 1) (P.rules ++ [actR 2 (rl : Int) vb en]) W9 from ⟨g6, c6, by rw [← hW9]; have h := HQ6.out.set_ 4 (.slice (some ⟨g6, 0, none⟩) (nr + 1) c6); simpa using h, by rw [← hW9]; have h := own_rd2 (polSet (k := 4) (u := .slice (some ⟨g6, 0, none⟩) (nr + 1) c6) ho6 HQ6.out (by decide)); rw [flat_snoc]; exact h, by rw [← hW9]; exact (HS6.out.mono (Nat.le_of_lt hgbl)).setCell (p := ⟨gq, 4, none⟩) (Nat.le_refl _) _⟩)
          rw [hW9]
          go_wp2_with fail
          go_meet
          case rel => exact HREL.out
      · as_aux_lemma =>
        obtain ⟨Wb, hWb⟩ : ∃ V, W5.drew.alloc (.cells #[.int .i64 2, .int .i64 (rl : Int), .int .i64 vb, .int .i64 en, .int .i64 0, .int .i64 0, .bool false, .int .u64 0, .int .u64 0, .int .i64 0, .int .u64 0, .int .i64 0] 38) = V := ⟨_, rfl⟩
        obtain ⟨gk, hgk⟩ : ∃ g, W5.heap.size = g := ⟨_, rfl⟩
        have HSb := Lib.hid (show Below W5.heap.size W5 Wb from by rw [← hWb]; exact bel_alloc (Below.refl W5.heap.size W5).drew _)
        have HKb := Lib.hid (show Blk Wb gk 38 #[.int .i64 2, .int .i64 (rl : Int), .int .i64 vb, .int .i64 en, .int .i64 0, .int .i64 0, .bool false, .int .u64 0, .int .u64 0, .int .i64 0, .int .u64 0, .int .i64 0] from by rw [← hWb, ← hgk]; exact Blk.new _ _ _)
        have HWb := Lib.hid hWb
        have HGK := Lib.hid hgk
        clear hWb hgk
        refine ordIz_only (v := .slice (some ⟨gk, 0, none⟩) 1 1) (w' := Wb) (by simp; rfl) (by rfl) ?_ (.inr HSb.out) ?_
        · rw [← HWb.out, ← HGK.out]
          exact lit_run rfl rfl
        simp only [Act.put, List.setIfInBounds_toArray, List.set_cons_zero, List.set_cons_succ]
        obtain ⟨Wa, hWa⟩ : ∃ V, Wb.alloc (.cells #[] 38) = V := ⟨_, rfl⟩
        obtain ⟨g0, hg0⟩ : ∃ g, Wb.heap.size = g := ⟨_, rfl⟩
        have HSa := Lib.hid (show Below W5.heap.size W5 Wa from by rw [← hWa]; exact bel_alloc HSb.out _)
        have HOa := Lib.hid (show Wa.ownsRow W5.heap.size 38 12 (.slice (some ⟨g0, 0, none⟩) 0 0) 0 [] from by rw [← hWa, ← hg0]; exact own_new Wb (B := W5.heap.size) (m := 0) (size := 12) (vs := []) rfl (HSb.out).size rfl (by decide))
        have HWa := Lib.hid hWa
        have HG0 := Lib.hid hg0
        clear hWa hg0
        refine ordz_only (v := .slice (some ⟨g0, 0, none⟩) 0 0) (w' := Wa) (i := 0) (fuel := 4) (by simp; rfl) (by kernel_rfl) (by rfl) ?_ (.inr HSa.out) ?_
        · rw [← HWa.out, ← HG0.out]
          go_simp
          all_goals with_reducible rfl
        simp only [Act.put, List.setIfInBounds_toArray, List.set_cons_zero, List.set_cons_succ]
        have hne0 : gk < g0 := by rw [← HG0.out]; exact HKb.out.lt
        have HKa := Lib.hid (show Blk Wa gk 38 #[.int .i64 2, .int .i64 (rl : Int), .int .i64 vb, .int .i64 en, .int .i64 0, .int .i64 0, .bool false, .int .u64 0, .int .u64 0, .int .i64 0, .int .u64 0, .int .i64 0] from by rw [← HWa.out]; exact HKb.out.alloc _)
        obtain ⟨g3, c3, x3, hrun3, ho3, hg3⟩ := app_keep Wa Try.underlying26 Try.ruleI rfl (by decide) (by decide) HOa.out (by simp) ⟨ga, oa, none⟩ nr s.cr (P.rules.flatMap ruleV) (by rw [flat_len ruleV 12 len_rule, HNR.out]) (rd_add (HRR.out Wa (HX5.out.trans (HSa.out.mono HX5.out.size))) (by omega)) (rules_ones _) (by omega) HSa.out.size 26
        rw [Nat.zero_add] at hrun3 ho3
        rw [List.nil_append] at ho3
        have HS3 := Lib.hid (HSa.out.grown hg3 HSa.out.size (own_base HOa.out))
        have HO3 := Lib.hid ho3
        refine ordz_only (v := .slice (some ⟨g3, 0, none⟩) nr c3) (w' := x3) (i := 3) (fuel := 3) (by simp; rfl) (by kernel_rfl) (by rfl) ?_ (.inr HS3.out) ?_
        · refine (append_runZ (s := .tmp 60) (x := .tmp 62) (v := .slice (some ⟨g0, 0, none⟩) 0 0) (xv := .slice (some ⟨ga, oa, none⟩) nr s.cr) rfl (by rfl) (by rfl) hrun3).trans ?_
          with_reducible rfl
        simp only [Act.put, List.setIfInBounds_toArray, List.set_cons_zero, List.set_cons_succ]
        have HG3 := Lib.hid hg3
        clear hrun3 ho3 hg3
        have HK3 := Lib.hid (show Blk x3 gk 38 #[.int .i64 2, .int .i64 (rl : Int), .int .i64 vb, .int .i64 en, .int .i64 0, .int .i64 0, .bool false, .int .u64 0, .int .u64 0, .int .i64 0, .int .u64 0, .int .i64 0] from (HG3.out.block gk HKa.out.lt (by simp [Value.ownBlock]; omega)).trans HKa.out)
        obtain ⟨g6, c6, x6, hrun6, ho6, hg6⟩ := app_keep x3 Try.underlying26 Try.ruleI rfl (by decide) (by decide) HO3.out (by simp) ⟨gk, 0, none⟩ 1 1 (ruleV (actR 2 (rl : Int) vb en)) rfl (blk_add HK3.out) (ruleV_ones _) (by omega) HS3.out.size 26
        have HS6 := Lib.hid (HS3.out.grown hg6 HS3.out.size (own_base HO3.out))
        have HQ6 := Lib.hid (HQ5.out.below HS6.out HQ5.out.lt)
        have hf6 := HQ6.out.frozen 4
        have hl6 := HQ6.out.lt
        have hq6 : x6.cell? ⟨gq, 4, none⟩ = some (.slice (some ⟨ga, oa, none⟩) nr s.cr) := (HQ6.out.cell 4).trans rfl
        refine ordz_only (v := .slice (some ⟨g6, 0, none⟩) (nr + 1) c6) (w' := x6) (i := 6) (fuel := 2) (by simp; rfl) (by kernel_rfl) (by rfl) ?_ (.inr HS6.out) ?_
        · refine (append_runZ (s := .tmp 63) (x := .tmp 65) (v := .slice (some ⟨g3, 0, none⟩) nr c3) (xv := .slice (some ⟨gk, 0, none⟩) 1 1) rfl (by rfl) (by rfl) hrun6).trans ?_
          with_reducible rfl
        simp only [Act.put, List.setIfInBounds_toArray, List.set_cons_zero, List.set_cons_succ]
        refine ordz_take (v := ?_) (i := 7) (fuel := 1) (by simp; rfl) (by kernel_rfl) (by kernel_rfl) (by kernel_rfl) (by kernel_rfl) (Or.inl ⟨by rfl, fun w' hSw => ?_⟩) HS6.out ?_
        rotate_left
        · go_simp
          all_goals with_reducible rfl
        simp only [Act.put, List.setIfInBounds_toArray, List.set_cons_zero, List.set_cons_succ]
        refine ordz_skip (w' := x6.setCell ⟨gq, 4, none⟩ (.slice (some ⟨g6, 0, none⟩) (nr + 1) c6)) (i := 8) (fuel := 0) (by simp; rfl) (by kernel_rfl) (by rfl) (by rfl) ?_ (.inl rfl) ?_
        · go_simp
          all_goals with_reducible rfl
        refine ordz_done (by kernel_rfl) ?_ _
        obtain ⟨W9, hW9⟩ : ∃ V, x6.setCell ⟨gq, 4, none⟩ (.slice (some ⟨g6, 0, none⟩) (nr + 1) c6) = V := ⟨_, rfl⟩
        have HREL := Lib.hid (show DenQ W5 s ne ng nh nu gq (nr + 1) (P.rules ++ [actR 2 (rl : Int) vb en]) W9 from ⟨g6, c6, by rw [← hW9]; have h := HQ6.out.set_ 4 (.slice (some ⟨g6, 0, none⟩) (nr + 1) c6); simpa using h, by rw [← hW9]; have h := own_rd2 (polSet (k := 4) (u := .slice (some ⟨g6, 0, none⟩) (nr + 1) c6) ho6 HQ6.out (by decide)); rw [flat_snoc]; exact h, by rw [← hW9]; exact (HS6.out.mono (Nat.le_of_lt hgbl)).setCell (p := ⟨gq, 4, none⟩) (Nat.le_refl _) _⟩)
        rw [hW9]
        go_wp2_with fail
        go_meet
        case rel => exact HREL.out
  case rest =>
    as_aux_lemma =>
      have HGQL := Lib.hid (show w1.heap.size ≤ gq from by rw [← HGQ.out]; exact HX4.out.size)
      obtain ⟨g6, c6, hq, hr, hb⟩ := hcut
      have HX6 := Lib.hid (HX5.out.trans (hb.mono (by have := HX5.out.size; have := HGQL.out; omega)))
      have HP6 := Lib.hid (HP5.out.below hb HGG.out.1)
      have HR6 := Lib.hid (HR5.out.below hb HGG.out.2.1)
      have HQ6 := Lib.hid hq
      have hlen : (P.rules ++ [actR 2 (rl : Int) vb en]).length = nr + 1 := by rw [List.length_append, HNR.out]; rfl
      obtain ⟨m2, hm⟩ : ∃ b, mayL (withR P (P.rules ++ [actR 2 (rl : Int) vb en])) x.ro vb (k2 : Int) = b := ⟨_, rfl⟩
      have HV2 := Lib.hid hm
      have HM6 := Lib.hid (HMAY.out wc (some ⟨g6, 0, none⟩) c6 (P.rules ++ [actR 2 (rl : Int) vb en]) (nr + 1) hlen HX6.out hr (by omega) (all_app (fun _ _ _ h => h) HALL.out (by intro i a e; have h1 : a = actR 2 (rl : Int) vb en := (by cases i with | zero => simpa using e.symm | succ i => simp at e); rw [h1]; exact HRU.out 2 (by omega) (by omega))) (by intro r hr; rcases List.mem_append.1 hr with h | h; exact HRW.out r h; have h1 : r = actR 2 (rl : Int) vb en := (by simpa using h); rw [h1]; exact ⟨by show 0 < 18446744073709551616; decide, by show 0 < 18446744073709551616; decide, by show 0 < 18446744073709551616; decide⟩) m2 hm)
      clear hq hr hb hm hlen
      obtain ⟨l2, y0, y1, y2, y3, y4⟩ := pol5 HQ6.out
      go_wp2_with fail
      (with_reducible refine HM6.out.mono ?_)
      rintro e w6 ⟨rfl, hb⟩
      have HX7 := Lib.hid (HX6.out.trans (hb.mono HX6.out.size))
      have HP7 := Lib.hid (HP6.out.below hb HP6.out.lt)
      have HR7 := Lib.hid (HR6.out.below hb HR6.out.lt)
      clear hb l2 y0 y1 y2 y3 y4 HM6
      have z0 : w6.cell? ⟨gr, 0, none⟩ = some (.int .i64 2) := (HR7.out.cell 0).trans rfl
      have zf := HR7.out.frozen 0
      have zl := HR7.out.lt
      obtain ⟨l2, y0, y1, y2, y3, y4⟩ := pol5 HP7.out
      obtain ⟨gs, hgs⟩ : ∃ g, w6.heap.size = g := ⟨_, rfl⟩
      obtain ⟨W8, hW8⟩ : ∃ V, (w6.setCell ⟨gr, 0, none⟩ (.int .i64 1)).alloc (.cells #[.slice s.Ae ne s.ce, .slice s.Ag ng s.cg, .slice s.Ah nh s.ch, .slice s.Au nu s.cu, .slice (some ⟨ga, oa, none⟩) nr s.cr] 28) = V := ⟨_, rfl⟩
      have hgr1 : w1.heap.size ≤ gr := by have := HX2.out.size; have := HGR.out; omega
      have HX8 := Lib.hid (show Below w1.heap.size w1 W8 from by rw [← hW8]; exact bel_alloc (HX7.out.setCell (p := ⟨gr, 0, none⟩) hgr1 _) _)
      have HP8 := Lib.hid (show Blk W8 gp 28 #[.slice s.Ae ne s.ce, .slice s.Ag ng s.cg, .slice s.Ah nh s.ch, .slice s.Au nu s.cu, .slice (some ⟨ga, oa, none⟩) nr s.cr] from by rw [← hW8]; exact (HP7.out.far (p := ⟨gr, 0, none⟩) HGG.out.2.2 _).alloc _)
      have HR8 := Lib.hid (show Blk W8 gr 38 #[.int .i64 1, .int .i64 (rl : Int), .int .i64 vb, .int .i64 en, .int .i64 0, .int .i64 0, .bool false, .int .u64 0, .int .u64 0, .int .i64 0, .int .u64 0, .int .i64 0] from by rw [← hW8]; have h := (HR7.out.set_ 0 (.int .i64 1)).alloc (.cells #[.slice s.Ae ne s.ce, .slice s.Ag ng s.cg, .slice s.Ah nh s.ch, .slice s.Au nu s.cu, .slice (some ⟨ga, oa, none⟩) nr s.cr] 28); simpa using h)
      have HQ8 := Lib.hid (show Blk W8 gs 28 #[.slice s.Ae ne s.ce, .slice s.Ag ng s.cg, .slice s.Ah nh s.ch, .slice s.Au nu s.cu, .slice (some ⟨ga, oa, none⟩) nr s.cr] from by rw [← hW8]; exact blk_at (by simp; exact hgs))
      have HGSL := Lib.hid (show w1.heap.size ≤ gs from by rw [← hgs]; exact HX7.out.size)
      have HGG := Lib.hid (show gp < gs ∧ gr < gs ∧ gp ≠ gr from by rw [← hgs]; exact ⟨HP7.out.lt, HR7.out.lt, HGG.out.2.2⟩)
      have HW8 := Lib.hid hW8
      have HGS := Lib.hid hgs
      have hpr := HGG.out.2.2
      have hrp : gr ≠ gp := fun h => hpr h.symm
      clear hW8 hgs
      go_upto_region 12 with fail
      rw [HGS.out, HW8.out]
      clear l2 y0 y1 y2 y3 y4 z0 zf zl HW8 hpr hrp
      go_cut [81] (fun _ wx => DenQ W8 s ne ng nh nu gs (nr + 1) (P.rules ++ [actR 1 (rl : Int) vb en]) wx)
      case first =>
        as_aux_lemma =>
          have hgbl : gs < W8.heap.size := HQ8.out.lt
          refine wp_region_ordz (S := fun V => Below W8.heap.size W8 V) (z := 8) (by kernel_rfl) ?_
          refine ordz_take (v := ?_) (i := 1) (fuel := 8) (by simp; rfl) (by kernel_rfl) (by kernel_rfl) (by kernel_rfl) (by kernel_rfl) (Or.inl ⟨by rfl, fun w' hSw => ?_⟩) (Below.refl W8.heap.size W8).drew ?_
          rotate_left
          · go_simp
            all_goals with_reducible rfl
          simp only [Act.put, List.setIfInBounds_toArray, List.set_cons_zero, List.set_cons_succ]
          refine ordz_take (v := ?_) (i := 2) (fuel := 7) (by simp; rfl) (by kernel_rfl) (by kernel_rfl) (by kernel_rfl) (by kernel_rfl) (Or.inl ⟨by rfl, fun w' hSw => ?_⟩) (Below.refl W8.heap.size W8).drew ?_
          rotate_left
          · obtain ⟨l2, y0, y1, y2, y3, y4⟩ := pol5 (HP8.out.below hSw HP8.out.lt)
            go_simp
            all_goals with_reducible rfl
          simp only [Act.put, List.setIfInBounds_toArray, List.set_cons_zero, List.set_cons_succ]
          refine ordz_take (v := ?_) (i := 4) (fuel := 6) (by simp; rfl) (by kernel_rfl) (by kernel_rfl) (by kernel_rfl) (by kernel_rfl) (Or.inl ⟨by rfl, fun w' hSw => ?_⟩) (Below.refl W8.heap.size W8).drew ?_
          rotate_left
          · have z0 : w'.cell? ⟨gr, 0, none⟩ = some (.int .i64 1) := ((HR8.out.below hSw HR8.out.lt).cell 0).trans rfl
            have z1 : w'.cell? ⟨gr, 1, none⟩ = some (.int .i64 (rl : Int)) := ((HR8.out.below hSw HR8.out.lt).cell 1).trans rfl
            have z2 : w'.cell? ⟨gr, 2, none⟩ = some (.int .i64 vb) := ((HR8.out.below hSw HR8.out.lt).cell 2).trans rfl
            have z3 : w'.cell? ⟨gr, 3, none⟩ = some (.int .i64 en) := ((HR8.out.below hSw HR8.out.lt).cell 3).trans rfl
            have z4 : w'.cell? ⟨gr, 4, none⟩ = some (.int .i64 0) := ((HR8.out.below hSw HR8.out.lt).cell 4).trans rfl
            have z5 : w'.cell? ⟨gr, 5, none⟩ = some (.int .i64 0) := ((HR8.out.below hSw HR8.out.lt).cell 5).trans rfl
            have z6 : w'.cell? ⟨gr, 6, none⟩ = some (.bool false) := ((HR8.out.below hSw HR8.out.lt).cell 6).trans rfl
            have z7 : w'.cell? ⟨gr, 7, none⟩ = some (.int .u64 0) := ((HR8.out.below hSw HR8.out.lt).cell 7).trans rfl
            have z8 : w'.cell? ⟨gr, 8, none⟩ = some (.int .u64 0) := ((HR8.out.below hSw HR8.out.lt).cell 8).trans rfl
            have z9 : w'.cell? ⟨gr, 9, none⟩ = some (.int .i64 0) := ((HR8.out.below hSw HR8.out.lt).cell 9).trans rfl
            have z10 : w'.cell? ⟨gr, 10, none⟩ = some (.int .u64 0) := ((HR8.out.below hSw HR8.out.lt).cell 10).trans rfl
            have z11 : w'.cell? ⟨gr, 11, none⟩ = some (.int .i64 0) := ((HR8.out.below hSw HR8.out.lt).cell 11).trans rfl
            have zl := (HR8.out.below hSw HR8.out.lt).lt
            go_simp
            all_goals with_reducible rfl
          simp only [Act.put, List.setIfInBounds_toArray, List.set_cons_zero, List.set_cons_succ]
          refine ordz_two (i := 0) (j := 5) (fuel := 5) (by kernel_rfl) ?_ ?_
          · as_aux_lemma =>
            obtain ⟨Wa, hWa⟩ : ∃ V, W8.drew.alloc (.cells #[] 38) = V := ⟨_, rfl⟩
            obtain ⟨g0, hg0⟩ : ∃ g, W8.heap.size = g := ⟨_, rfl⟩
            have HSa := Lib.hid (show Below W8.heap.size W8 Wa from by rw [← hWa]; exact bel_alloc (Below.refl W8.heap.size W8).drew _)
            have HOa := Lib.hid (show Wa.ownsRow W8.heap.size 38 12 (.slice (some ⟨g0, 0, none⟩) 0 0) 0 [] from by rw [← hWa, ← hg0]; exact own_new W8.drew (B := W8.heap.size) (m := 0) (size := 12) (vs := []) rfl ((Below.refl W8.heap.size W8).drew).size rfl (by decide))
            have HWa := Lib.hid hWa
            have HG0 := Lib.hid hg0
            clear hWa hg0
            refine ordIz_only (v := .slice (some ⟨g0, 0, none⟩) 0 0) (w' := Wa) (by simp; rfl) (by rfl) ?_ (.inr HSa.out) ?_
            · rw [← HWa.out, ← HG0.out]
              go_simp
              all_goals with_reducible rfl
            simp only [Act.put, List.setIfInBounds_toArray, List.set_cons_zero, List.set_cons_succ]
            refine ordz_two (i := 3) (j := 5) (fuel := 4) (by kernel_rfl) ?_ ?_
            · as_aux_lemma =>
              obtain ⟨g3, c3, x3, hrun3, ho3, hg3⟩ := app_keep Wa Try.underlying26 Try.ruleI rfl (by decide) (by decide) HOa.out (by simp) ⟨ga, oa, none⟩ nr s.cr (P.rules.flatMap ruleV) (by rw [flat_len ruleV 12 len_rule, HNR.out]) (rd_add (HRR.out Wa (HX8.out.trans (HSa.out.mono HX8.out.size))) (by omega)) (rules_ones _) (by omega) HSa.out.size 26
              rw [Nat.zero_add] at hrun3 ho3
              rw [List.nil_append] at ho3
              have HS3 := Lib.hid (HSa.out.grown hg3 HSa.out.size (own_base HOa.out))
              have HO3 := Lib.hid ho3
              refine ordIz_only (v := .slice (some ⟨g3, 0, none⟩) nr c3) (w' := x3) (by simp; rfl) (by rfl) ?_ (.inr HS3.out) ?_
              · refine (append_runZ (s := .tmp 75) (x := .tmp 77) (v := .slice (some ⟨g0, 0, none⟩) 0 0) (xv := .slice (some ⟨ga, oa, none⟩) nr s.cr) rfl (by rfl) (by rfl) hrun3).trans ?_
                with_reducible rfl
              simp only [Act.put, List.setIfInBounds_toArray, List.set_cons_zero, List.set_cons_succ]
              have HG3 := Lib.hid hg3
              clear hrun3 ho3 hg3
              obtain ⟨Wb, hWb⟩ : ∃ V, x3.alloc (.cells #[.int .i64 1, .int .i64 (rl : Int), .int .i64 vb, .int .i64 en, .int .i64 0, .int .i64 0, .bool false, .int .u64 0, .int .u64 0, .int .i64 0, .int .u64 0, .int .i64 0] 38) = V := ⟨_, rfl⟩
              obtain ⟨gk, hgk⟩ : ∃ g, x3.heap.size = g := ⟨_, rfl⟩
              have HSb := Lib.hid (show Below W8.heap.size W8 Wb from by rw [← hWb]; exact bel_alloc HS3.out _)
              have HKb := Lib.hid (show Blk Wb gk 38 #[.int .i64 1, .int .i64 (rl : Int), .int .i64 vb, .int .i64 en, .int .i64 0, .int .i64 0, .bool false, .int .u64 0, .int .u64 0, .int .i64 0, .int .u64 0, .int .i64 0] from by rw [← hWb, ← hgk]; exact Blk.new _ _ _)
              have HWb := Lib.hid hWb
              have HGK := Lib.hid hgk
              clear hWb hgk
              refine ordz_only (v := .slice (some ⟨gk, 0, none⟩) 1 1) (w' := Wb) (i := 5) (fuel := 3) (by simp; rfl) (by kernel_rfl) (by rfl) ?_ (.inr HSb.out) ?_
              · rw [← HWb.out, ← HGK.out]
                exact lit_run rfl rfl
              simp only [Act.put, List.setIfInBounds_toArray, List.set_cons_zero, List.set_cons_succ]
              have HO3b := Lib.hid (show Wb.ownsRow _ _ _ _ _ _ from by rw [← HWb.out]; exact own_below HO3.out (bel_alloc (Below.refl _ _) _))
              obtain ⟨g6, c6, x6, hrun6, ho6, hg6⟩ := app_keep Wb Try.underlying26 Try.ruleI rfl (by decide) (by decide) HO3b.out (by simp) ⟨gk, 0, none⟩ 1 1 (ruleV (actR 1 (rl : Int) vb en)) rfl (blk_add HKb.out) (ruleV_ones _) (by omega) HSb.out.size 26
              have HS6 := Lib.hid (HSb.out.grown hg6 HSb.out.size (own_base HO3b.out))
              have HQ6 := Lib.hid (HQ8.out.below HS6.out HQ8.out.lt)
              have hf6 := HQ6.out.frozen 4
              have hl6 := HQ6.out.lt
              have hq6 : x6.cell? ⟨gs, 4, none⟩ = some (.slice (some ⟨ga, oa, none⟩) nr s.cr) := (HQ6.out.cell 4).trans rfl
              refine ordz_only (v := .slice (some ⟨g6, 0, none⟩) (nr + 1) c6) (w' := x6) (i := 6) (fuel := 2) (by simp; rfl) (by kernel_rfl) (by rfl) ?_ (.inr HS6.out) ?_
              · refine (append_runZ (s := .tmp 78) (x := .tmp 80) (v := .slice (some ⟨g3, 0, none⟩) nr c3) (xv := .slice (some ⟨gk, 0, none⟩) 1 1) rfl (by rfl) (by rfl) hrun6).trans ?_
                with_reducible rfl
              simp only [Act.put, List.setIfInBounds_toArray, List.set_cons_zero, List.set_cons_succ]
              refine ordz_take (v := ?_) (i := 7) (fuel := 1) (by simp; rfl) (by kernel_rfl) (by kernel_rfl) (by kernel_rfl) (by kernel_rfl) (Or.inl ⟨by rfl, fun w' hSw => ?_⟩) HS6.out ?_
              rotate_left
              · go_simp
                all_goals with_reducible rfl
              simp only [Act.put, List.setIfInBounds_toArray, List.set_cons_zero, List.set_cons_succ]
              refine ordz_skip (w' := x6.setCell ⟨gs, 4, none⟩ (.slice (some ⟨g6, 0, none⟩) (nr + 1) c6)) (i := 8) (fuel := 0) (by simp; rfl) (by kernel_rfl) (by rfl) (by rfl) ?_ (.inl rfl) ?_
              · go_simp
                all_goals with_reducible rfl
              refine ordz_done (by kernel_rfl) ?_ _
              obtain ⟨W9, hW9⟩ : ∃ V, x6.setCell ⟨gs, 4, none⟩ (.slice (some ⟨g6, 0, none⟩) (nr + 1) c6) = V := ⟨_, rfl⟩
              have HREL := Lib.hid (show DenQ W8 s ne ng nh nu gs (nr + 1) (P.rules ++ [actR 1 (rl : Int) vb en]) W9 from ⟨g6, c6, by rw [← hW9]; have h := HQ6.out.set_ 4 (.slice (some ⟨g6, 0, none⟩) (nr + 1) c6); simpa using h, by rw [← hW9]; have h := own_rd2 (polSet (k := 4) (u := .slice (some ⟨g6, 0, none⟩) (nr + 1) c6) ho6 HQ6.out (by decide)); rw [flat_snoc]; exact h, by rw [← hW9]; exact (HS6.out.mono (Nat.le_of_lt hgbl)).setCell (p := ⟨gs, 4, none⟩) (Nat.le_refl _) _⟩)
              rw [hW9]
              go_wp2_with fail
              go_meet
              case rel => exact HREL.out
            · as_aux_lemma =>
              obtain ⟨Wb, hWb⟩ : ∃ V, Wa.alloc (.cells #[.int .i64 1, .int .i64 (rl : Int), .int .i64 vb, .int .i64 en, .int .i64 0, .int .i64 0, .bool false, .int .u64 0, .int .u64 0, .int .i64 0, .int .u64 0, .int .i64 0] 38) = V := ⟨_, rfl⟩
              obtain ⟨gk, hgk⟩ : ∃ g, Wa.heap.size = g := ⟨_, rfl⟩
              have HSb := Lib.hid (show Below W8.heap.size W8 Wb from by rw [← hWb]; exact bel_alloc HSa.out _)
              have HKb := Lib.hid (show Blk Wb gk 38 #[.int .i64 1, .int .i64 (rl : Int), .int .i64 vb, .int .i64 en, .int .i64 0, .int .i64 0, .bool false, .int .u64 0, .int .u64 0, .int .i64 0, .int .u64 0, .int .i64 0] from by rw [← hWb, ← hgk]; exact Blk.new _ _ _)
              have HWb := Lib.hid hWb
              have HGK := Lib.hid hgk
              clear hWb hgk
              refine ordIz_only (v := .slice (some ⟨gk, 0, none⟩) 1 1) (w' := Wb) (by simp; rfl) (by rfl) ?_ (.inr HSb.out) ?_
              · rw [← HWb.out, ← HGK.out]
                exact lit_run rfl rfl
              simp only [Act.put, List.setIfInBounds_toArray, List.set_cons_zero, List.set_cons_succ]
              have HOb := Lib.hid (show Wb.ownsRow _ _ _ _ _ _ from by rw [← HWb.out]; exact own_below HOa.out (bel_alloc (Below.refl _ _) _))
              have hne0 : g0 < gk := by rw [← HGK.out]; exact own_block HOa.out g0 (by simp [Value.ownBlock])
              obtain ⟨g3, c3, x3, hrun3, ho3, hg3⟩ := app_keep Wb Try.underlying26 Try.ruleI rfl (by decide) (by decide) HOb.out (by simp) ⟨ga, oa, none⟩ nr s.cr (P.rules.flatMap ruleV) (by rw [flat_len ruleV 12 len_rule, HNR.out]) (rd_add (HRR.out Wb (HX8.out.trans (HSb.out.mono HX8.out.size))) (by omega)) (rules_ones _) (by omega) HSb.out.size 26
              rw [Nat.zero_add] at hrun3 ho3
              rw [List.nil_append] at ho3
              have HS3 := Lib.hid (HSb.out.grown hg3 HSb.out.size (own_base HOb.out))
              have HO3 := Lib.hid ho3
              refine ordz_only (v := .slice (some ⟨g3, 0, none⟩) nr c3) (w' := x3) (i := 3) (fuel := 3) (by simp; rfl) (by kernel_rfl) (by rfl) ?_ (.inr HS3.out) ?_
              · refine (append_runZ (s := .tmp 75) (x := .tmp 77) (v := .slice (some ⟨g0, 0, none⟩) 0 0) (xv := .slice (some ⟨ga, oa, none⟩) nr s.cr) rfl (by rfl) (by rfl) hrun3).trans ?_
                with_reducible rfl
              simp only [Act.put, List.setIfInBounds_toArray, List.set_cons_zero, List.set_cons_succ]
              have HG3 := Lib.hid hg3
              clear hrun3 ho3 hg3
              have HK3 := Lib.hid (show Blk x3 gk 38 #[.int .i64 1, .int .i64 (rl : Int), .int .i64 vb, .int .i64 en, .int .i64 0, .int .i64 0, .bool false, .int .u64 0, .int .u64 0, .int .i64 0, .int .u64 0, .int .i64 0] from (HG3.out.block gk HKb.out.lt (by simp [Value.ownBlock]; omega)).trans HKb.out)
              obtain ⟨g6, c6, x6, hrun6, ho6, hg6⟩ := app_keep x3 Try.underlying26 Try.ruleI rfl (by decide) (by decide) HO3.out (by simp) ⟨gk, 0, none⟩ 1 1 (ruleV (actR 1 (rl : Int) vb en)) rfl (blk_add HK3.out) (ruleV_ones _) (by omega) HS3.out.size 26
              have HS6 := Lib.hid (HS3.out.grown hg6 HS3.out.size (own_base HO3.out))
              have HQ6 := Lib.hid (HQ8.out.below HS6.out HQ8.out.lt)
              have hf6 := HQ6.out.frozen 4
              have hl6 := HQ6.out.lt
              have hq6 : x6.cell? ⟨gs, 4, none⟩ = some (.slice (some ⟨ga, oa, none⟩) nr s.cr) := (HQ6.out.cell 4).trans rfl
              refine ordz_only (v := .slice (some ⟨g6, 0, none⟩) (nr + 1) c6) (w' := x6) (i := 6) (fuel := 2) (by simp; rfl) (by kernel_rfl) (by rfl) ?_ (.inr HS6.out) ?_
              · refine (append_runZ (s := .tmp 78) (x := .tmp 80) (v := .slice (some ⟨g3, 0, none⟩) nr c3) (xv := .slice (some ⟨gk, 0, none⟩) 1 1) rfl (by rfl) (by rfl) hrun6).trans ?_
                with_reducible rfl
              simp only [Act.put, List.setIfInBounds_toArray, List.set_cons_zero, List.set_cons_succ]
              refine ordz_take (v := ?_) (i := 7) (fuel := 1) (by simp; rfl) (by kernel_rfl) (by kernel_rfl) (by kernel_rfl) (by kernel_rfl) (Or.inl ⟨by rfl, fun w' hSw => ?_⟩) HS6.out ?_
              rotate_left
              · go_simp
                all_goals with_reducible rfl
              simp only [Act.put, List.setIfInBounds_toArray, List.set_cons_zero, List.set_cons_succ]
              refine ordz_skip (w' := x6.setCell ⟨gs, 4, none⟩ (.slice (some ⟨g6, 0, none⟩) (nr + 1) c6)) (i := 8) (fuel := 0) (by simp; rfl) (by kernel_rfl) (by rfl) (by rfl) ?_ (.inl rfl) ?_
              · go_simp
                all_goals with_reducible rfl
              refine ordz_done (by kernel_rfl) ?_ _
              obtain ⟨W9, hW9⟩ : ∃ V, x6.setCell ⟨gs, 4, none⟩ (.slice (some ⟨g6, 0, none⟩) (nr + 1) c6) = V := ⟨_, rfl⟩
              have HREL := Lib.hid (show DenQ W8 s ne ng nh nu gs (nr + 1) (P.rules ++ [actR 1 (rl : Int) vb en]) W9 from ⟨g6, c6, by rw [← hW9]; have h := HQ6.out.set_ 4 (.slice (some ⟨g6, 0, none⟩) (nr + 1) c6); simpa using h, by rw [← hW9]; have h := own_rd2 (polSet (k := 4) (u := .slice (some ⟨g6, 0, none⟩) (nr + 1) c6) ho6 HQ6.out (by decide)); rw [flat_snoc]; exact h, by rw [← hW9]; exact (HS6.out.mono (Nat.le_of_lt hgbl)).setCell (p := ⟨gs, 4, none⟩) (Nat.le_refl _) _⟩)
              rw [hW9]
              go_wp2_with fail
              go_meet
              case rel => exact HREL.out
          · as_aux_lemma =>
            obtain ⟨Wb, hWb⟩ : ∃ V, W8.drew.alloc (.cells #[.int .i64 1, .int .i64 (rl : Int), .int .i64 vb, .int .i64 en, .int .i64 0, .int .i64 0, .bool false, .int .u64 0, .int .u64 0, .int .i64 0, .int .u64 0, .int .i64 0] 38) = V := ⟨_, rfl⟩
            obtain ⟨gk, hgk⟩ : ∃ g, W8.heap.size = g := ⟨_, rfl⟩
            have HSb := Lib.hid (show Below W8.heap.size W8 Wb from by rw [← hWb]; exact bel_alloc (Below.refl W8.heap.size W8).drew _)
            have HKb := Lib.hid (show Blk Wb gk 38 #[.int .i64 1, .int .i64 (rl : Int), .int .i64 vb, .int .i64 en, .int .i64 0, .int .i64 0, .bool false, .int .u64 0, .int .u64 0, .int .i64 0, .int .u64 0, .int .i64 0] from by rw [← hWb, ← hgk]; exact Blk.new _ _ _)
            have HWb := Lib.hid hWb
            have HGK := Lib.hid hgk
            clear hWb hgk
            refine ordIz_only (v := .slice (some ⟨gk, 0, none⟩) 1 1) (w' := Wb) (by simp; rfl) (by rfl) ?_ (.inr HSb.out) ?_
            · rw [← HWb.out, ← HGK.out]
              exact lit_run rfl rfl
            simp only [Act.put, List.setIfInBounds_toArray, List.set_cons_zero, List.set_cons_succ]
            obtain ⟨Wa, hWa⟩ : ∃ V, Wb.alloc (.cells #[] 38) = V := ⟨_, rfl⟩
            obtain ⟨g0, hg0⟩ : ∃ g, Wb.heap.size = g := ⟨_, rfl⟩
            have HSa := Lib.hid (show Below W8.heap.size W8 Wa from by rw [← hWa]; exact bel_alloc HSb.out _)
            have HOa := Lib.hid (show Wa.ownsRow W8.heap.size 38 12 (.slice (some ⟨g0, 0, none⟩) 0 0) 0 [] from by rw [← hWa, ← hg0]; exact own_new Wb (B := W8.heap.size) (m := 0) (size := 12) (vs := []) rfl (HSb.out).size rfl (by decide))
            have HWa := Lib.hid hWa
            have HG0 := Lib.hid hg0
            clear hWa hg0
            refine ordz_only (v := .slice (some ⟨g0, 0, none⟩) 0 0) (w' := Wa) (i := 0) (fuel := 4) (by simp; rfl) (by kernel_rfl) (by rfl) ?_ (.inr HSa.out) ?_
            · rw [← HWa.out, ← HG0.out]
              go_simp
              all_goals with_reducible rfl
            simp only [Act.put, List.setIfInBounds_toArray, List.set_cons_zero, List.set_cons_succ]
            have hne0 : gk < g0 := by rw [← HG0.out]; exact HKb.out.lt
            have HKa := Lib.hid (show Blk Wa gk 38 #[.int .i64 1, .int .i64 (rl : Int), .int .i64 vb, .int .i64 en, .int .i64 0, .int .i64 0, .bool false, .int .u64 0, .int .u64 0, .int .i64 0, .int .u64 0, .int .i64 0] from by rw [← HWa.out]; exact HKb.out.alloc _)
            obtain ⟨g3, c3, x3, hrun3, ho3, hg3⟩ := app_keep Wa Try.underlying26 Try.ruleI rfl (by decide) (by decide) HOa.out (by simp) ⟨ga, oa, none⟩ nr s.cr (P.rules.flatMap ruleV) (by rw [flat_len ruleV 12 len_rule, HNR.out]) (rd_add (HRR.out Wa (HX8.out.trans (HSa.out.mono HX8.out.size))) (by omega)) (rules_ones _) (by omega) HSa.out.size 26
            rw [Nat.zero_add] at hrun3 ho3
            rw [List.nil_append] at ho3
            have HS3 := Lib.hid (HSa.out.grown hg3 HSa.out.size (own_base HOa.out))
            have HO3 := Lib.hid ho3
            refine ordz_only (v := .slice (some ⟨g3, 0, none⟩) nr c3) (w' := x3) (i := 3) (fuel := 3) (by simp; rfl) (by kernel_rfl) (by rfl) ?_ (.inr HS3.out) ?_
            · refine (append_runZ (s := .tmp 75) (x := .tmp 77) (v := .slice (some ⟨g0, 0, none⟩) 0 0) (xv := .slice (some ⟨ga, oa, none⟩) nr s.cr) rfl (by rfl) (by rfl) hrun3).trans ?_
              with_reducible rfl
            simp only [Act.put, List.setIfInBounds_toArray, List.set_cons_zero, List.set_cons_succ]
            have HG3 := Lib.hid hg3
            clear hrun3 ho3 hg3
            have HK3 := Lib.hid (show Blk x3 gk 38 #[.int .i64 1, .int .i64 (rl : Int), .int .i64 vb, .int .i64 en, .int .i64 0, .int .i64 0, .bool false, .int .u64 0, .int .u64 0, .int .i64 0, .int .u64 0, .int .i64 0] from (HG3.out.block gk HKa.out.lt (by simp [Value.ownBlock]; omega)).trans HKa.out)
            obtain ⟨g6, c6, x6, hrun6, ho6, hg6⟩ := app_keep x3 Try.underlying26 Try.ruleI rfl (by decide) (by decide) HO3.out (by simp) ⟨gk, 0, none⟩ 1 1 (ruleV (actR 1 (rl : Int) vb en)) rfl (blk_add HK3.out) (ruleV_ones _) (by omega) HS3.out.size 26
            have HS6 := Lib.hid (HS3.out.grown hg6 HS3.out.size (own_base HO3.out))
            have HQ6 := Lib.hid (HQ8.out.below HS6.out HQ8.out.lt)
            have hf6 := HQ6.out.frozen 4
            have hl6 := HQ6.out.lt
            have hq6 : x6.cell? ⟨gs, 4, none⟩ = some (.slice (some ⟨ga, oa, none⟩) nr s.cr) := (HQ6.out.cell 4).trans rfl
            refine ordz_only (v := .slice (some ⟨g6, 0, none⟩) (nr + 1) c6) (w' := x6) (i := 6) (fuel := 2) (by simp; rfl) (by kernel_rfl) (by rfl) ?_ (.inr HS6.out) ?_
            · refine (append_runZ (s := .tmp 78) (x := .tmp 80) (v := .slice (some ⟨g3, 0, none⟩) nr c3) (xv := .slice (some ⟨gk, 0, none⟩) 1 1) rfl (by rfl) (by rfl) hrun6).trans ?_
              with_reducible rfl
            simp only [Act.put, List.setIfInBounds_toArray, List.set_cons_zero, List.set_cons_succ]
            refine ordz_take (v := ?_) (i := 7) (fuel := 1) (by simp; rfl) (by kernel_rfl) (by kernel_rfl) (by kernel_rfl) (by kernel_rfl) (Or.inl ⟨by rfl, fun w' hSw => ?_⟩) HS6.out ?_
            rotate_left
            · go_simp
              all_goals with_reducible rfl
            simp only [Act.put, List.setIfInBounds_toArray, List.set_cons_zero, List.set_cons_succ]
            refine ordz_skip (w' := x6.setCell ⟨gs, 4, none⟩ (.slice (some ⟨g6, 0, none⟩) (nr + 1) c6)) (i := 8) (fuel := 0) (by simp; rfl) (by kernel_rfl) (by rfl) (by rfl) ?_ (.inl rfl) ?_
            · go_simp
              all_goals with_reducible rfl
            refine ordz_done (by kernel_rfl) ?_ _
            obtain ⟨W9, hW9⟩ : ∃ V, x6.setCell ⟨gs, 4, none⟩ (.slice (some ⟨g6, 0, none⟩) (nr + 1) c6) = V := ⟨_, rfl⟩
            have HREL := Lib.hid (show DenQ W8 s ne ng nh nu gs (nr + 1) (P.rules ++ [actR 1 (rl : Int) vb en]) W9 from ⟨g6, c6, by rw [← hW9]; have h := HQ6.out.set_ 4 (.slice (some ⟨g6, 0, none⟩) (nr + 1) c6); simpa using h, by rw [← hW9]; have h := own_rd2 (polSet (k := 4) (u := .slice (some ⟨g6, 0, none⟩) (nr + 1) c6) ho6 HQ6.out (by decide)); rw [flat_snoc]; exact h, by rw [← hW9]; exact (HS6.out.mono (Nat.le_of_lt hgbl)).setCell (p := ⟨gs, 4, none⟩) (Nat.le_refl _) _⟩)
            rw [hW9]
            go_wp2_with fail
            go_meet
            case rel => exact HREL.out
      case rest =>
        as_aux_lemma =>
          obtain ⟨g9, c9, hq, hr, hb⟩ := hcut
          have HX9 := Lib.hid (HX8.out.trans (hb.mono (by have := HX8.out.size; have := HGSL.out; omega)))
          have HP9 := Lib.hid (HP8.out.below hb HGG.out.1)
          have HR9 := Lib.hid (HR8.out.below hb HGG.out.2.1)
          have HQ9 := Lib.hid hq
          have hlen : (P.rules ++ [actR 1 (rl : Int) vb en]).length = nr + 1 := by rw [List.length_append, HNR.out]; rfl
          obtain ⟨m1, hm⟩ : ∃ b, mayL (withR P (P.rules ++ [actR 1 (rl : Int) vb en])) x.ro vb (k2 : Int) = b := ⟨_, rfl⟩
          have HV1 := Lib.hid hm
          have HM9 := Lib.hid (HMAY.out wc (some ⟨g9, 0, none⟩) c9 (P.rules ++ [actR 1 (rl : Int) vb en]) (nr + 1) hlen HX9.out hr (by omega) (all_app (fun _ _ _ h => h) HALL.out (by intro i a e; have h1 : a = actR 1 (rl : Int) vb en := (by cases i with | zero => simpa using e.symm | succ i => simp at e); rw [h1]; exact HRU.out 1 (by omega) (by omega))) (by intro r hr; rcases List.mem_append.1 hr with h | h; exact HRW.out r h; have h1 : r = actR 1 (rl : Int) vb en := (by simpa using h); rw [h1]; exact ⟨by show 0 < 18446744073709551616; decide, by show 0 < 18446744073709551616; decide, by show 0 < 18446744073709551616; decide⟩) m1 hm)
          clear hq hr hb hm hlen
          obtain ⟨l2, y0, y1, y2, y3, y4⟩ := pol5 HQ9.out
          go_wp2_with fail
          (with_reducible refine HM9.out.mono ?_)
          rintro e w9 ⟨rfl, hb⟩
          have HX10 := Lib.hid (HX9.out.trans (hb.mono HX9.out.size))
          have HP10 := Lib.hid (HP9.out.below hb HP9.out.lt)
          have HR10 := Lib.hid (HR9.out.below hb HR9.out.lt)
          clear hb l2 y0 y1 y2 y3 y4 HM9
          obtain ⟨l2, y0, y1, y2, y3, y4⟩ := pol5 HP10.out
          obtain ⟨gt, hgt⟩ : ∃ g, w9.heap.size = g := ⟨_, rfl⟩
          obtain ⟨W11, hW11⟩ : ∃ V, w9.alloc (.cells #[.slice s.Ae ne s.ce, .slice s.Ag ng s.cg, .slice s.Ah nh s.ch, .slice s.Au nu s.cu, .slice (some ⟨ga, oa, none⟩) nr s.cr] 28) = V := ⟨_, rfl⟩
          have HQ11 := Lib.hid (show Blk W11 gt 28 #[.slice s.Ae ne s.ce, .slice s.Ag ng s.cg, .slice s.Ah nh s.ch, .slice s.Au nu s.cu, .slice (some ⟨ga, oa, none⟩) nr s.cr] from by rw [← hW11, ← hgt]; exact Blk.new _ _ _)
          have HX11 := Lib.hid (show Below w1.heap.size w1 W11 from by rw [← hW11]; exact bel_alloc HX10.out _)
          have HP11 := Lib.hid (show Blk W11 gp 28 #[.slice s.Ae ne s.ce, .slice s.Ag ng s.cg, .slice s.Ah nh s.ch, .slice s.Au nu s.cu, .slice (some ⟨ga, oa, none⟩) nr s.cr] from by rw [← hW11]; exact HP10.out.alloc _)
          have HR11 := Lib.hid (show Blk W11 gr 38 #[.int .i64 1, .int .i64 (rl : Int), .int .i64 vb, .int .i64 en, .int .i64 0, .int .i64 0, .bool false, .int .u64 0, .int .u64 0, .int .i64 0, .int .u64 0, .int .i64 0] from by rw [← hW11]; exact HR10.out.alloc _)
          have HGTL := Lib.hid (show w1.heap.size ≤ gt from by rw [← hgt]; exact HX10.out.size)
          have HGG := Lib.hid (show gp < gt ∧ gr < gt ∧ gp ≠ gr from by rw [← hgt]; exact ⟨HP10.out.lt, HR10.out.lt, HGG.out.2.2⟩)
          have HW11 := Lib.hid hW11
          have HGT := Lib.hid hgt
          clear hW11 hgt
          go_upto_region 15 with fail
          rw [HGT.out, HW11.out]
          clear l2 y0 y1 y2 y3 y4 HW11
          obtain ⟨l2, y0, y1, y2, y3, y4⟩ := pol5 HP11.out
          go_wp2_with fail
          (with_reducible refine (HK6.out _).mono ?_)
          rintro e w' ⟨rfl, rfl⟩
          go_upto_region 16 with fail
          clear l2 y0 y1 y2 y3 y4
          go_cut [105] (fun _ wx => DenQ W11 s ne ng nh nu gt nr (P.rules.drop k6 ++ P.rules.take k6) wx)
          case first =>
            as_aux_lemma =>
              have hgbl : gt < W11.heap.size := HQ11.out.lt
              obtain ⟨ok, hif, hok⟩ : ∃ ok, (if s.cr = k6 then some (⟨ga, oa, none⟩ : Addr) else some ⟨ga, oa + k6 * 12, none⟩) = some ⟨ga, ok, none⟩ ∧ (k6 < nr → ok = oa + k6 * 12) := by
                by_cases h : s.cr = k6
                · exact ⟨oa, by rw [if_pos h], fun hl => by omega⟩
                · exact ⟨oa + k6 * 12, by rw [if_neg h], fun _ => rfl⟩
              have HOK := Lib.hid hok
              have hk6n : k6 ≤ nr := by omega
              have hk6c : k6 ≤ s.cr := by omega
              have hlend : (P.rules.drop k6).length = nr - k6 := by rw [List.length_drop, HNR.out]
              have hlent : (P.rules.take k6).length = k6 := by rw [List.length_take, HNR.out]; omega
              have HLD := Lib.hid hlend
              have HLT := Lib.hid hlent
              clear hok hlend hlent
              refine wp_region_ordz (S := fun V => Below W11.heap.size W11 V) (z := 12) (by kernel_rfl) ?_
              refine ordz_take (v := ?_) (i := 1) (fuel := 12) (by simp; rfl) (by kernel_rfl) (by kernel_rfl) (by kernel_rfl) (by kernel_rfl) (Or.inl ⟨by rfl, fun w' hSw => ?_⟩) (Below.refl W11.heap.size W11).drew ?_
              rotate_left
              · go_simp
                all_goals with_reducible rfl
              simp only [Act.put, List.setIfInBounds_toArray, List.set_cons_zero, List.set_cons_succ]
              refine ordz_take (v := ?_) (i := 2) (fuel := 11) (by simp; rfl) (by kernel_rfl) (by kernel_rfl) (by kernel_rfl) (by kernel_rfl) (Or.inl ⟨by rfl, fun w' hSw => ?_⟩) (Below.refl W11.heap.size W11).drew ?_
              rotate_left
              · obtain ⟨l2, y0, y1, y2, y3, y4⟩ := pol5 (HP11.out.below hSw HP11.out.lt)
                go_simp
                all_goals with_reducible rfl
              simp only [Act.put, List.setIfInBounds_toArray, List.set_cons_zero, List.set_cons_succ]
              refine ordz_take (v := ?_) (i := 3) (fuel := 10) (by simp; rfl) (by kernel_rfl) (by kernel_rfl) (by kernel_rfl) (by kernel_rfl) (Or.inl ⟨by rfl, fun w' hSw => ?_⟩) (Below.refl W11.heap.size W11).drew ?_
              rotate_left
              · go_simp
                all_goals with_reducible rfl
              simp only [Act.put, List.setIfInBounds_toArray, List.set_cons_zero, List.set_cons_succ]
              refine ordz_take (v := ?_) (i := 4) (fuel := 9) (by simp; rfl) (by kernel_rfl) (by kernel_rfl) (by kernel_rfl) (by kernel_rfl) (Or.inl ⟨by rfl, fun w' hSw => ?_⟩) (Below.refl W11.heap.size W11).drew ?_
              rotate_left
              · go_simp
                all_goals with_reducible rfl
              simp only [Act.put, List.setIfInBounds_toArray, List.set_cons_zero, List.set_cons_succ]
              refine ordz_take (v := ?_) (i := 6) (fuel := 8) (by simp; rfl) (by kernel_rfl) (by kernel_rfl) (by kernel_rfl) (by kernel_rfl) (Or.inl ⟨by rfl, fun w' hSw => ?_⟩) (Below.refl W11.heap.size W11).drew ?_
              rotate_left
              · go_simp
                all_goals with_reducible rfl
              simp only [Act.put, List.setIfInBounds_toArray, List.set_cons_zero, List.set_cons_succ]
              refine ordz_take (v := ?_) (i := 7) (fuel := 7) (by simp; rfl) (by kernel_rfl) (by kernel_rfl) (by kernel_rfl) (by kernel_rfl) (Or.inl ⟨by rfl, fun w' hSw => ?_⟩) (Below.refl W11.heap.size W11).drew ?_
              rotate_left
              · obtain ⟨l2, y0, y1, y2, y3, y4⟩ := pol5 (HP11.out.below hSw HP11.out.lt)
                go_simp
                all_goals with_reducible rfl
              simp only [Act.put, List.setIfInBounds_toArray, List.set_cons_zero, List.set_cons_succ]
              refine ordz_take (v := ?_) (i := 8) (fuel := 6) (by simp; rfl) (by kernel_rfl) (by kernel_rfl) (by kernel_rfl) (by kernel_rfl) (Or.inl ⟨by rfl, fun w' hSw => ?_⟩) (Below.refl W11.heap.size W11).drew ?_
              rotate_left
              · go_simp
                all_goals with_reducible rfl
              simp only [Act.put, List.setIfInBounds_toArray, List.set_cons_zero, List.set_cons_succ]
              refine ordz_take (v := ?_) (i := 9) (fuel := 5) (by simp; rfl) (by kernel_rfl) (by kernel_rfl) (by kernel_rfl) (by kernel_rfl) (Or.inl ⟨by rfl, fun w' hSw => ?_⟩) (Below.refl W11.heap.size W11).drew ?_
              rotate_left
              · go_simp
                all_goals with_reducible rfl
              simp only [Act.put, List.setIfInBounds_toArray, List.set_cons_zero, List.set_cons_succ]
              obtain ⟨Wa, hWa⟩ : ∃ V, W11.drew.alloc (.cells #[] 38) = V := ⟨_, rfl⟩
              obtain ⟨g0, hg0⟩ : ∃ g, W11.heap.size = g := ⟨_, rfl⟩
              have HSa := Lib.hid (show Below W11.heap.size W11 Wa from by rw [← hWa]; exact bel_alloc (Below.refl W11.heap.size W11).drew _)
              have HOa := Lib.hid (show Wa.ownsRow W11.heap.size 38 12 (.slice (some ⟨g0, 0, none⟩) 0 0) 0 [] from by rw [← hWa, ← hg0]; exact own_new W11.drew (B := W11.heap.size) (m := 0) (size := 12) (vs := []) rfl (Nat.le_refl _) rfl (by decide))
              have HWa := Lib.hid hWa
              have HG0 := Lib.hid hg0
              clear hWa hg0
              refine ordz_only (v := .slice (some ⟨g0, 0, none⟩) 0 0) (w' := Wa) (i := 0) (fuel := 4) (by simp; rfl) (by kernel_rfl) (by rfl) ?_ (.inr HSa.out) ?_
              · rw [← HWa.out, ← HG0.out]
                go_simp
                all_goals with_reducible rfl
              simp only [Act.put, List.setIfInBounds_toArray, List.set_cons_zero, List.set_cons_succ]
              obtain ⟨g3, c3, x3, hrun3, ho3, hg3⟩ := app_keep Wa Try.underlying26 Try.ruleI rfl (by decide) (by decide) HOa.out (by simp) ⟨ga, ok, none⟩ (nr - k6) (s.cr - k6) ((P.rules.drop k6).flatMap ruleV) (by rw [flat_len ruleV 12 len_rule, HLD.out]) (rd_drop (HRR.out Wa (HX11.out.trans (HSa.out.mono HX11.out.size))) HNR.out (by omega) HOK.out) (rules_ones _) (by omega) HSa.out.size 26
              rw [Nat.zero_add] at hrun3 ho3
              rw [List.nil_append] at ho3
              have HS3 := Lib.hid (HSa.out.grown hg3 HSa.out.size (own_base HOa.out))
              have HO3 := Lib.hid ho3
              refine ordz_only (v := .slice (some ⟨g3, 0, none⟩) (nr - k6) c3) (w' := x3) (i := 5) (fuel := 3) (by simp; rfl) (by kernel_rfl) (by rfl) ?_ (.inr HS3.out) ?_
              · refine (append_runZ (s := .tmp 95) (x := .tmp 99) (v := .slice (some ⟨g0, 0, none⟩) 0 0) (xv := .slice (some ⟨ga, ok, none⟩) (nr - k6) (s.cr - k6)) rfl (by rfl) (by rfl) hrun3).trans ?_
                with_reducible rfl
              simp only [Act.put, List.setIfInBounds_toArray, List.set_cons_zero, List.set_cons_succ]
              clear hrun3 ho3 hg3
              obtain ⟨g6, c6, x6, hrun6, ho6, hg6⟩ := app_keep x3 Try.underlying26 Try.ruleI rfl (by decide) (by decide) HO3.out (by simp) ⟨ga, oa, none⟩ k6 s.cr ((P.rules.take k6).flatMap ruleV) (by rw [flat_len ruleV 12 len_rule, HLT.out]) (rd_take (HRR.out x3 (HX11.out.trans (HS3.out.mono HX11.out.size))) (by omega)) (rules_ones _) (by omega) HS3.out.size 26
              rw [Nat.sub_add_cancel hk6n] at hrun6 ho6
              have HS6 := Lib.hid (HS3.out.grown hg6 HS3.out.size (own_base HO3.out))
              have HQ6 := Lib.hid (HQ11.out.below HS6.out HQ11.out.lt)
              have hf6 := HQ6.out.frozen 4
              have hl6 := HQ6.out.lt
              have hq6 : x6.cell? ⟨gt, 4, none⟩ = some (.slice (some ⟨ga, oa, none⟩) nr s.cr) := (HQ6.out.cell 4).trans rfl
              refine ordz_only (v := .slice (some ⟨g6, 0, none⟩) nr c6) (w' := x6) (i := 10) (fuel := 2) (by simp; rfl) (by kernel_rfl) (by rfl) ?_ (.inr HS6.out) ?_
              · refine (append_runZ (s := .tmp 100) (x := .tmp 104) (v := .slice (some ⟨g3, 0, none⟩) (nr - k6) c3) (xv := .slice (some ⟨ga, oa, none⟩) k6 s.cr) rfl (by rfl) (by rfl) hrun6).trans ?_
                with_reducible rfl
              simp only [Act.put, List.setIfInBounds_toArray, List.set_cons_zero, List.set_cons_succ]
              refine ordz_take (v := ?_) (i := 11) (fuel := 1) (by simp; rfl) (by kernel_rfl) (by kernel_rfl) (by kernel_rfl) (by kernel_rfl) (Or.inl ⟨by rfl, fun w' hSw => ?_⟩) HS6.out ?_
              rotate_left
              · go_simp
                all_goals with_reducible rfl
              simp only [Act.put, List.setIfInBounds_toArray, List.set_cons_zero, List.set_cons_succ]
              clear hif
              refine ordz_skip (w' := x6.setCell ⟨gt, 4, none⟩ (.slice (some ⟨g6, 0, none⟩) nr c6)) (i := 12) (fuel := 0) (by simp; rfl) (by kernel_rfl) (by rfl) (by rfl) ?_ (.inl rfl) ?_
              · go_simp
                all_goals with_reducible rfl
              refine ordz_done (by kernel_rfl) ?_ _
              obtain ⟨W9, hW9⟩ : ∃ V, x6.setCell ⟨gt, 4, none⟩ (.slice (some ⟨g6, 0, none⟩) nr c6) = V := ⟨_, rfl⟩
              have HREL := Lib.hid (show DenQ W11 s ne ng nh nu gt nr (P.rules.drop k6 ++ P.rules.take k6) W9 from ⟨g6, c6, by rw [← hW9]; have h := HQ6.out.set_ 4 (.slice (some ⟨g6, 0, none⟩) nr c6); simpa using h, by rw [← hW9]; have h := own_rd2 (polSet (k := 4) (u := .slice (some ⟨g6, 0, none⟩) nr c6) ho6 HQ6.out (by decide)); rw [List.flatMap_append]; exact h, by rw [← hW9]; exact (HS6.out.mono (Nat.le_of_lt hgbl)).setCell (p := ⟨gt, 4, none⟩) (Nat.le_refl _) _⟩)
              rw [hW9]
              go_wp2_with fail
              go_meet
              case rel => exact HREL.out
          case rest =>
            as_aux_lemma =>
              obtain ⟨g13, c13, hq, hr, hb⟩ := hcut
              have HX13 := Lib.hid (HX11.out.trans (hb.mono HGTL.out))
              have HR13 := Lib.hid (HR11.out.below hb HGG.out.2.1)
              have HQ13 := Lib.hid hq
              have hsub : ∀ r ∈ P.rules.drop k6 ++ P.rules.take k6, r ∈ P.rules := fun r h => by
                rcases List.mem_append.1 h with h | h
                · exact List.mem_of_mem_drop h
                · exact List.mem_of_mem_take h
              have hlen : (P.rules.drop k6 ++ P.rules.take k6).length = nr := by
                rw [List.length_append, List.length_drop, List.length_take, HNR.out]
                omega
              have HM13 := Lib.hid (fun (V : World) (h : Below wc.heap.size wc V) => HMAY.out V (some ⟨g13, 0, none⟩) c13 (P.rules.drop k6 ++ P.rules.take k6) nr hlen (HX13.out.trans (h.mono HX13.out.size)) ((hr.below h).more h.size) (by omega) (all_sub (fun _ _ _ h => h) HALL.out hsub) (fun r h => HRW.out r (hsub r h)) m0 (by rw [mayL_turn]; exact HV0.out))
              have hD : m2 = true → m0 = true := fun h => by
                rw [← HV0.out]
                exact mayL_deny P x.ro vb (k2 : Int) (actR 2 (rl : Int) vb en) rfl (HV2.out.trans h)
              have hA : m0 = true → m1 = true := fun h => by
                rw [← HV1.out]
                exact mayL_allow P x.ro vb (k2 : Int) (actR 1 (rl : Int) vb en) rfl (HV0.out.trans h)
              have hO : en ≠ (k2 : Int) → en ≠ -1 → m2 = m0 ∧ m1 = m0 := fun h1 h2 => by
                constructor
                · rw [← HV2.out, ← HV0.out]
                  exact mayL_other P x.ro vb (k2 : Int) (actR 2 (rl : Int) vb en) h1 h2
                · rw [← HV1.out, ← HV0.out]
                  exact mayL_other P x.ro vb (k2 : Int) (actR 1 (rl : Int) vb en) h1 h2
              have HD := Lib.hid hD
              have HA := Lib.hid hA
              have HO := Lib.hid hO
              clear hq hr hb hsub hlen hD hA hO hk1' hk2' hk3' hk4' hk5' hk6' hvb hen
              go_wp2_with fail
              (with_reducible refine (HKN.out _).mono ?_)
              rintro e v1 ⟨rfl, hb⟩
              have HZ1 := Lib.hid hb
              clear hb
              obtain ⟨l2, y0, y1, y2, y3, y4⟩ := pol5 (HQ13.out.below HZ1.out HQ13.out.lt)
              have ha0 : m2 = true → m0 = true := HD.out
              have ha1 : m0 = true → m1 = true := HA.out
              cases m0
              · cases m2
                · cases m1
                  · as_aux_lemma =>
                    clear ha0 ha1
                    go_wp2_with fail
                    (with_reducible refine (HM13.out _ HZ1.out).mono ?_)
                    rintro e v2 ⟨rfl, hb⟩
                    have HZ2 := Lib.hid (HZ1.out.trans (hb.mono HZ1.out.size))
                    have HF2 := Lib.hid (HB1.out.trans ((HX13.out.trans (HZ2.out.mono HX13.out.size)).mono HB1.out.size))
                    have z3 : v2.cell? ⟨gr, 3, none⟩ = some (.int .i64 en) := ((HR13.out.below HZ2.out HR13.out.lt).cell 3).trans rfl
                    have zl := (HR13.out.below HZ2.out HR13.out.lt).lt
                    clear hb l2 y0 y1 y2 y3 y4
                    by_cases j1 : en < 0
                    · go_wp2
                      go_ret
                      exact ⟨rfl, HF2.out⟩
                    · by_cases j2 : en = (k2 : Int)
                      · have j2b : (en == (k2 : Int)) = true := by simp; omega
                        clear j2
                        go_wp2
                        go_ret
                        exact ⟨rfl, HF2.out⟩
                      · have j2b : (en == (k2 : Int)) = false := by simp; omega
                        have hoo := HO.out j2 (by omega)
                        clear j2
                        first
                          | exact absurd hoo.1 (by decide)
                          | exact absurd hoo.2 (by decide)
                          | (clear hoo
                             go_wp2
                             go_ret
                             exact ⟨rfl, HF2.out⟩)
                  · as_aux_lemma =>
                    clear ha0 ha1
                    go_wp2_with fail
                    (with_reducible refine (HM13.out _ HZ1.out).mono ?_)
                    rintro e v2 ⟨rfl, hb⟩
                    have HZ2 := Lib.hid (HZ1.out.trans (hb.mono HZ1.out.size))
                    have HF2 := Lib.hid (HB1.out.trans ((HX13.out.trans (HZ2.out.mono HX13.out.size)).mono HB1.out.size))
                    have z3 : v2.cell? ⟨gr, 3, none⟩ = some (.int .i64 en) := ((HR13.out.below HZ2.out HR13.out.lt).cell 3).trans rfl
                    have zl := (HR13.out.below HZ2.out HR13.out.lt).lt
                    clear hb l2 y0 y1 y2 y3 y4
                    by_cases j1 : en < 0
                    · go_wp2
                      go_ret
                      exact ⟨rfl, HF2.out⟩
                    · by_cases j2 : en = (k2 : Int)
                      · have j2b : (en == (k2 : Int)) = true := by simp; omega
                        clear j2
                        go_wp2
                        go_ret
                        exact ⟨rfl, HF2.out⟩
                      · have j2b : (en == (k2 : Int)) = false := by simp; omega
                        have hoo := HO.out j2 (by omega)
                        clear j2
                        first
                          | exact absurd hoo.1 (by decide)
                          | exact absurd hoo.2 (by decide)
                          | (clear hoo
                             go_wp2
                             go_ret
                             exact ⟨rfl, HF2.out⟩)
                · exact absurd (ha0 rfl) (by decide)
              · cases m1
                · exact absurd (ha1 rfl) (by decide)
                · cases m2
                  · as_aux_lemma =>
                    clear ha0 ha1
                    go_wp2_with fail
                    (with_reducible refine (HM13.out _ HZ1.out).mono ?_)
                    rintro e v2 ⟨rfl, hb⟩
                    have HZ2 := Lib.hid (HZ1.out.trans (hb.mono HZ1.out.size))
                    have HF2 := Lib.hid (HB1.out.trans ((HX13.out.trans (HZ2.out.mono HX13.out.size)).mono HB1.out.size))
                    have z3 : v2.cell? ⟨gr, 3, none⟩ = some (.int .i64 en) := ((HR13.out.below HZ2.out HR13.out.lt).cell 3).trans rfl
                    have zl := (HR13.out.below HZ2.out HR13.out.lt).lt
                    clear hb l2 y0 y1 y2 y3 y4
                    by_cases j1 : en < 0
                    · go_wp2
                      go_ret
                      exact ⟨rfl, HF2.out⟩
                    · by_cases j2 : en = (k2 : Int)
                      · have j2b : (en == (k2 : Int)) = true := by simp; omega
                        clear j2
                        go_wp2
                        go_ret
                        exact ⟨rfl, HF2.out⟩
                      · have j2b : (en == (k2 : Int)) = false := by simp; omega
                        have hoo := HO.out j2 (by omega)
                        clear j2
                        first
                          | exact absurd hoo.1 (by decide)
                          | exact absurd hoo.2 (by decide)
                          | (clear hoo
                             go_wp2
                             go_ret
                             exact ⟨rfl, HF2.out⟩)
                  · as_aux_lemma =>
                    clear ha0 ha1
                    go_wp2_with fail
                    (with_reducible refine (HM13.out _ HZ1.out).mono ?_)
                    rintro e v2 ⟨rfl, hb⟩
                    have HZ2 := Lib.hid (HZ1.out.trans (hb.mono HZ1.out.size))
                    have HF2 := Lib.hid (HB1.out.trans ((HX13.out.trans (HZ2.out.mono HX13.out.size)).mono HB1.out.size))
                    have z3 : v2.cell? ⟨gr, 3, none⟩ = some (.int .i64 en) := ((HR13.out.below HZ2.out HR13.out.lt).cell 3).trans rfl
                    have zl := (HR13.out.below HZ2.out HR13.out.lt).lt
                    clear hb l2 y0 y1 y2 y3 y4
                    by_cases j1 : en < 0
                    · go_wp2
                      go_ret
                      exact ⟨rfl, HF2.out⟩
                    · by_cases j2 : en = (k2 : Int)
                      · have j2b : (en == (k2 : Int)) = true := by simp; omega
                        clear j2
                        go_wp2
                        go_ret
                        exact ⟨rfl, HF2.out⟩
                      · have j2b : (en == (k2 : Int)) = false := by simp; omega
                        have hoo := HO.out j2 (by omega)
                        clear j2
                        first
                          | exact absurd hoo.1 (by decide)
                          | exact absurd hoo.2 (by decide)
                          | (clear hoo
                             go_wp2
                             go_ret
                             exact ⟨rfl, HF2.out⟩)
end Go.Proofs.Ythjdflhjlaedgab

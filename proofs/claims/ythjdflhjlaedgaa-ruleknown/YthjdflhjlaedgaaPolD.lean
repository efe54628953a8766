/- pyxhand.Policy. -/
import Derived.Test.YthjdflhjlaedgaaPolC
import Derived.Test.YthjdflhjlaedgaaRoleC
import Derived.Test.YthjdflhjlaedgaaRefP
import Derived.Test.YthjdflhjlaedgaaOrdZ
import Derived.Deep.DeepCutAuto
import Derived.Deep.CutBlock
namespace Go.Proofs.Ythjdflhjlaedgaa
open Go.RowKit
theorem new_cells (V : World) (T : TypeId) (vs : List Value) : ∀ (j : Nat) u, vs[j]? = some u → (V.alloc (.cells vs.toArray T)).cell? ((⟨V.heap.size, 0, none⟩ : Addr).add j) = some u := by
  intro j u e
  rw [Addr.add_lit, Nat.zero_add, (Blk.new V T vs.toArray).cell j, List.getElem?_toArray]
  exact e
theorem entV_ones (e : EntP) : ∀ u ∈ entV e, u.oneCell' = true := by
  intro u hu
  simp only [entV, List.mem_cons, List.not_mem_nil, or_false] at hu
  rcases hu with rfl | rfl | rfl | rfl <;> rfl
theorem whoV_ones (x : WhoP) : ∀ u ∈ whoV x, u.oneCell' = true := by
  intro u hu
  simp only [whoV, List.mem_cons, List.not_mem_nil, or_false] at hu
  rcases hu with rfl | rfl | rfl <;> rfl
theorem ruleV_ones (x : RuleP) : ∀ u ∈ ruleV x, u.oneCell' = true := by
  intro u hu
  simp only [ruleV, List.mem_cons, List.not_mem_nil, or_false] at hu
  rcases hu with rfl | rfl | rfl | rfl | rfl | rfl | rfl | rfl | rfl | rfl | rfl | rfl <;> rfl
def WhoOk (x : WhoP) : Prop := x.set < 256 ∧ 0 ≤ x.lv ∧ x.lv ≤ 3 ∧ x.ro < 256
theorem Try.entI : (Try.prog.info? 46).map (fun i => (i.zero, i.size, i.bytes)) = some (some (.agg #[.int .i64 0, .int .i64 0, .int .i64 0, .int .i64 0]), 4, 32) := by kernel_rfl
/-- append(s, ..), where what is appended lies in memory. -/
theorem wpList_app_row {w : World} {ops : Array Oper} {rest : List Oper} {o : Oper} {a : Act} {Q : Exit → Act → World → Prop} (hgd : o.guard = none) {s y : Operand} {TS E : TypeId}
    (ho : o.op = .call { callee := .builtin .append, args := #[s, y], argTypes := #[TS, TS] })
    {z : Value} {size bytes : Nat} (hts : Try.prog.underlying TS = some (.slice E)) (hie : (Try.prog.info? E).map (fun i => (i.zero, i.size, i.bytes)) = some (some z, size, bytes)) (hzs : z.cells.size = size) (hsz : 0 < size) (hby : bytes ≤ 1000)
    {base n : Nat} {v : Value} {xs : List Value} (hs : a.eval s = v) (h : w.ownsRow base E size v n xs) {ad : Addr} {m c : Nat} (news : List Value) (hy : a.eval y = .slice (some ad) m c) (hl : news.length = m * size) (hnews : ∀ (j : Nat) u, news[j]? = some u → w.cell? (ad.add j) = some u) (h1 : ∀ u ∈ news, u.oneCell' = true)
    (hm : 0 < m) (hn : n + m ≤ 1000000) (hB : base ≤ w.heap.size)
    (hk : ∀ (g' c' : Nat) w', w'.ownsRow base E size (.slice (some ⟨g', 0, none⟩) (n + m) c') (n + m) (xs ++ news) → w.grownBy w' v.ownBlock → wpList Try.prog ops Q rest (a.put o.dst (.slice (some ⟨g', 0, none⟩) (n + m) c')) w') :
    wpList Try.prog ops Q (o :: rest) a w := by
  refine wpList_plain hgd fun K hK => ?_
  obtain ⟨v', w', hr, h2, h3, h4, _⟩ := app_row w hts hie hzs hsz hby h ad m c news hl hnews h1 hm hn hB o.type
  unfold Oper.wp execOp
  simp only [ho, resolve, invoke, builtin, Sem.run_bind, Sem.run_pure, Result.andThen_ok, List.map_toArray, List.map_cons, List.map_nil, hs, hy, hr]
  rcases h2.2 with ⟨rfl, _⟩ | ⟨g', c', cur, rfl, _⟩
  · exact absurd rfl h4
  · exact hK _ _ (hk g' c' w' h2 h3)
theorem own_new (w : World) {B m size : Nat} {T : TypeId} {cs : Array Value} {vs : List Value} (hcs : cs = vs.toArray) (hB : B ≤ w.heap.size) (hl : vs.length = m * size) (hm : m ≤ 1000000) : (w.alloc (.cells cs T)).ownsRow B T size (.slice (some ⟨w.heap.size, 0, none⟩) m m) m vs := by
  subst hcs
  refine ⟨hl, .inr ⟨_, m, vs.toArray, rfl, hB, heap_alloc_new w _, Nat.le_refl _, by unfold maxLen; omega, ?_, ?_⟩⟩
  · simp only [List.size_toArray]
    exact hl
  · simp only
    rw [List.take_of_length_le (by omega)]
theorem Try.u64I : (Try.prog.info? 30).map (fun i => (i.zero, i.size, i.bytes)) = some (some (.int .u64 0), 1, 8) := by kernel_rfl
theorem Try.whoI : (Try.prog.info? 48).map (fun i => (i.zero, i.size, i.bytes)) = some (some (.agg #[.int .u64 0, .int .i64 0, .int .u64 0]), 3, 24) := by kernel_rfl
theorem Try.ruleI : (Try.prog.info? 37).map (fun i => (i.zero, i.size, i.bytes)) = some (some (.agg #[.int .i64 0, .int .i64 0, .int .i64 0, .int .i64 0, .int .i64 0, .int .i64 0, .bool false, .int .u64 0, .int .u64 0, .int .i64 0, .int .u64 0, .int .i64 0]), 12, 96) := by kernel_rfl
def EntsG (N : Nat) (P : PolP) : Prop := P.ents.length = N ∧ AllI_ EntOk P.ents
def GrpG (N : Nat) (l : List Nat) : Prop := AllI_ (fun _ g => 0 < g ∧ g < 2 ^ N) l
def PGrps (w0 : World) (gp gz N : Nat) (i : Value) (wr : World) : Prop :=
  ∃ (k : Nat) (R : Row5) (P : PolP), k ≤ 2 ∧ i = .int .i64 k ∧ PolW w0 wr gp gz R P ∧ EntsG N P ∧ (GrpG N P.grp ∧ 1 ≤ P.grp.length ∧ P.grp.length ≤ k + 1) ∧ P.who = [] ∧ P.up = [] ∧ P.rules = []
theorem append_runZ {P : Program} {o : Oper} {a : Act} {s x : Operand} {t u : TypeId} {v xv v' : Value} {w w' : World} (ho : o.op = .call { callee := .builtin .append, args := #[s, x], argTypes := #[t, u] }) (hs : a.eval s = v) (hx : a.eval x = xv)
    (hr : (Builtin.append_ #[t, u] o.type #[v, xv]).run P w = .ok v' w') : (execOp a.eval o).run P w = .ok (.value v') w' := by
  unfold execOp
  simp only [ho, resolve, invoke, builtin, Sem.run_bind, Sem.run_pure, Result.andThen_ok, List.map_toArray, List.map_cons, List.map_nil, hs, hx, hr]
/-- What a region that ends in a store to field k reads of the policy. -/
def PolS (gp : Nat) (R : Row5) (W : World) : Prop := PolC W gp R
theorem app_some (w : World) {TS E : TypeId} {z : Value} {size bytes : Nat} (hts : Try.prog.underlying TS = some (.slice E)) (hie : (Try.prog.info? E).map (fun i => (i.zero, i.size, i.bytes)) = some (some z, size, bytes)) (hzs : z.cells.size = size) (hsz : 0 < size) (hby : bytes ≤ 1000)
    {base n : Nat} {v : Value} {xs : List Value} (h : w.ownsRow base E size v n xs) (a : Addr) (m c : Nat) (news : List Value) (hl : news.length = m * size) (hnews : ∀ (j : Nat) u, news[j]? = some u → w.cell? (a.add j) = some u) (h1 : ∀ u ∈ news, u.oneCell' = true)
    (hm : 0 < m) (hn : n + m ≤ 1000000) (hB : base ≤ w.heap.size) (ty : TypeId) :
    ∃ g' c' w', (Builtin.append_ #[TS, TS] ty #[v, .slice (some a) m c]).run Try.prog w = .ok (.slice (some ⟨g', 0, none⟩) (n + m) c') w' ∧ w'.ownsRow base E size (.slice (some ⟨g', 0, none⟩) (n + m) c') (n + m) (xs ++ news) ∧ w.grownBy w' v.ownBlock := by
  obtain ⟨v', w', hr, h2, h3, h4, _⟩ := app_row w hts hie hzs hsz hby h a m c news hl hnews h1 hm hn hB ty
  rcases h2.2 with ⟨rfl, _⟩ | ⟨g', c', cur, rfl, _⟩
  · exact absurd rfl h4
  · exact ⟨g', c', w', hr, h2, h3⟩
def UpG (l : List Int) : Prop := l.length = 4 ∧ AllI_ (fun i x => -1 ≤ x ∧ x < (i : Int)) l
def WhoG (l : List WhoP) : Prop := AllI_ (fun _ x => WhoOk x) l ∧ l[0]? = some ⟨255, 3, 1⟩
def PWhos (w0 : World) (gp gz N : Nat) (i : Value) (wr : World) : Prop :=
  ∃ (k : Nat) (R : Row5) (P : PolP), k ≤ 3 ∧ i = .int .i64 k ∧ PolW w0 wr gp gz R P ∧ EntsG N P ∧ (GrpG N P.grp ∧ 1 ≤ P.grp.length ∧ P.grp.length ≤ 3) ∧ UpG P.up ∧ (WhoG P.who ∧ P.who.length = k + 1) ∧ P.rules = []
def RuleOk (ne nr ng : Nat) (r : RuleP) : Prop := 0 ≤ r.role ∧ r.role < (nr : Int) ∧
  ((1 ≤ r.tag ∧ r.tag ≤ 2 ∧ 1 ≤ r.verb ∧ r.verb ≤ 3 ∧ -1 ≤ r.ent ∧ r.ent < (ne : Int) ∧ r.grp = 0 ∧ r.line = 0 ∧ r.neg = false ∧ r.c0 = 0 ∧ r.c1 = 0 ∧ r.sc = 0 ∧ r.toS = 0 ∧ r.toL = 0) ∨
   (r.tag = 3 ∧ r.verb = 0 ∧ r.ent = -1 ∧ 0 ≤ r.grp ∧ r.grp < (ng : Int) ∧ 0 ≤ r.line ∧ r.line < 6 ∧ r.neg = false ∧ 1 ≤ r.c0 ∧ r.c0 ≤ 2500 ∧ r.c1 = 0 ∧ 0 ≤ r.sc ∧ r.sc ≤ 2 ∧ r.toS < 256 ∧ 0 ≤ r.toL ∧ r.toL ≤ 3))
def RulesG (ne ng : Nat) (l : List RuleP) : Prop := AllI_ (fun _ r => RuleOk ne 4 ng r) l
def actR (tag role verb ent : Int) : RuleP := ⟨tag, role, verb, ent, 0, 0, false, 0, 0, 0, 0, 0⟩
theorem actR_ok {ne nr ng : Nat} {tag role verb ent : Int} (h0 : 0 ≤ role) (h1 : role < (nr : Int)) (h2 : 1 ≤ tag) (h3 : tag ≤ 2) (h4 : 1 ≤ verb) (h5 : verb ≤ 3) (h6 : -1 ≤ ent) (h7 : ent < (ne : Int)) : RuleOk ne nr ng (actR tag role verb ent) := ⟨h0, h1, .inl ⟨h2, h3, h4, h5, h6, h7, rfl, rfl, rfl, rfl, rfl, rfl, rfl, rfl⟩⟩
def PRul (w0 : World) (gp gz N : Nat) (cond : Nat → Nat → Prop) (i : Value) (wr : World) : Prop :=
  ∃ (k : Nat) (R : Row5) (P : PolP), cond k P.rules.length ∧ i = .int .i64 k ∧ PolW w0 wr gp gz R P ∧ EntsG N P ∧ (GrpG N P.grp ∧ 1 ≤ P.grp.length ∧ P.grp.length ≤ 3) ∧ UpG P.up ∧ (WhoG P.who ∧ 2 ≤ P.who.length ∧ P.who.length ≤ 4) ∧ RulesG N P.grp.length P.rules
theorem of_small {z : Nat} {s : Int} {v : Value} (h : IsDec (z : Int) s v) (hz : z < 18446744073709551616) : v = .agg #[.bool false, .int .u64 (z : Int), .int .u64 0, .int .i64 s] := by
  obtain ⟨n, a, b, ⟨hn, ha, hb, hv⟩, rfl⟩ := h
  unfold v2 at hv
  unfold U64 at ha hb
  rw [Int.natAbs_natCast] at hv
  have hb0 : b = 0 := by omega
  have ha0 : a = (z : Int) := by omega
  have hn0 : n = false := by rw [hn, decide_eq_false (by omega)]
  rw [hb0, ha0, hn0]
theorem own_form {w : World} {B n size : Nat} {E : TypeId} {v : Value} {xs : List Value} (h : w.ownsRow B E size v n xs) : ∃ A c, v = .slice A n c := by
  rcases h.2 with ⟨rfl, rfl⟩ | ⟨g, c, _, rfl, _⟩
  · exact ⟨none, 0, rfl⟩
  · exact ⟨_, c, rfl⟩
def relR (role grp line : Int) (c0 : Nat) (sc : Int) (toS : Nat) (toL : Int) : RuleP := ⟨3, role, 0, -1, grp, line, false, c0, 0, sc, toS, toL⟩
theorem relR_ok {ne nr ng : Nat} {role grp line sc toL : Int} {c0 toS : Nat} (h0 : 0 ≤ role) (h1 : role < (nr : Int)) (h2 : 0 ≤ grp) (h3 : grp < (ng : Int)) (h4 : 0 ≤ line) (h5 : line < 6) (h6 : 1 ≤ c0) (h7 : c0 ≤ 2500) (h8 : 0 ≤ sc) (h9 : sc ≤ 2) (ha : toS < 256) (hb : 0 ≤ toL) (hc : toL ≤ 3) : RuleOk ne nr ng (relR role grp line c0 sc toS toL) :=
  ⟨h0, h1, .inr ⟨rfl, rfl, rfl, h2, h3, h4, h5, rfl, h6, h7, rfl, h8, h9, ha, hb, hc⟩⟩
/-- A policy that is right, of two to four entities. -/
def PolG (P : PolP) : Prop := ∃ N : Nat, 2 ≤ N ∧ N ≤ 4 ∧ EntsG N P ∧ (GrpG N P.grp ∧ 1 ≤ P.grp.length ∧ P.grp.length ≤ 3) ∧ UpG P.up ∧ (WhoG P.who ∧ 2 ≤ P.who.length ∧ P.who.length ≤ 4) ∧ RulesG N P.grp.length P.rules ∧ 7 ≤ P.rules.length ∧ P.rules.length ≤ 13
/-- It was returned; its rows are the call's own. -/
def PolRet (w : World) (e : Ending) (w' : World) : Prop := ∃ (R : Row5) (P : PolP), e = .returned (.agg #[R.e, R.g, R.h, R.u, R.r]) ∧ RowsW w.heap.size w' R P ∧ PolG P ∧ Below w.heap.size w w'
def PEnts (w0 : World) (gp gz n : Nat) (i : Value) (wr : World) : Prop :=
  ∃ (k : Nat) (R : Row5) (P : PolP), k ≤ n ∧ i = .int .i64 k ∧ PolW w0 wr gp gz R P ∧ P.ents.length = k ∧ AllI_ EntOk P.ents ∧ P.grp = [] ∧ P.who = [] ∧ P.up = [] ∧ P.rules = []
end Go.Proofs.Ythjdflhjlaedgaa

/- pyxhand.Policy. -/
import Derived.Test.YtakofbkbbmpfeaaPolC
import Derived.Test.YtakofbkbbmpfeaaRoleC
import Derived.Test.YtakofbkbbmpfeaaRefP
import Derived.Test.YtakofbkbbmpfeaaOrdZ
import Derived.Deep.DeepCutAuto
import Derived.Deep.CutBlock
namespace Go.Proofs.Ytakofbkbbmpfeaa
open Go.RowKit
theorem new_cells (V : World) (T : TypeId) (vs : List Value) : ∀ (j : Nat) u, vs[j]? = some u → (V.alloc (.cells vs.toArray T)).cell? ((⟨V.heap.size, 0, none⟩ : Addr).add j) = some u := by
  intro j u e
  rw [Addr.add_lit, Nat.zero_add, (Blk.new V T vs.toArray).cell j, List.getElem?_toArray]
  exact e
theorem entV_ones (e : EntP) : ∀ u ∈ entV e, u.oneCell' = true := by
  intro u hu
  simp only [entV, List.mem_cons, List.not_mem_nil, or_false] at hu
  rcases hu with rfl | rfl | rfl | rfl <;> rfl
theorem whoV_ones (x : WhoP) : ∀ u ∈ whoV x, u.oneCell' = true := by
  intro u hu
  simp only [whoV, List.mem_cons, List.not_mem_nil, or_false] at hu
  rcases hu with rfl | rfl | rfl <;> rfl
theorem ruleV_ones (x : RuleP) : ∀ u ∈ ruleV x, u.oneCell' = true := by
  intro u hu
  simp only [ruleV, List.mem_cons, List.not_mem_nil, or_false] at hu
  rcases hu with rfl | rfl | rfl | rfl | rfl | rfl | rfl | rfl | rfl | rfl | rfl | rfl <;> rfl
def WhoOk (x : WhoP) : Prop := x.set < 256 ∧ 0 ≤ x.lv ∧ x.lv ≤ 3 ∧ x.ro < 256
theorem Try.entI : (Try.prog.info? 44).map (fun i => (i.zero, i.size, i.bytes)) = some (some (.agg #[.int .i64 0, .int .i64 0, .int .i64 0, .int .i64 0]), 4, 32) := by kernel_rfl
theorem polIdx4 {m : Nat} (h : m < 4) : ∃ s : Int, 0 ≤ s ∧ s ≤ 4 ∧ ∀ V, (Instr.index 68 (.agg #[.int .i64 2, .int .i64 2, .int .i64 0, .int .i64 3]) (.int .i64 (m : Int))).run Try.prog V = .ok (.int .i64 s) V := by
  match m, h with
  | 0, _ => exact ⟨2, by omega, by omega, fun V => by rfl⟩
  | 1, _ => exact ⟨2, by omega, by omega, fun V => by rfl⟩
  | 2, _ => exact ⟨0, by omega, by omega, fun V => by rfl⟩
  | 3, _ => exact ⟨3, by omega, by omega, fun V => by rfl⟩
theorem idx4d {m : Nat} (h : m < 4) (x0 x1 x2 x3 y0 y1 y2 y3 z0 z1 z2 z3 u0 u1 u2 u3 : Value) : ∃ v0 v1 v2 v3, ((v0, v1, v2, v3) = (x0, x1, x2, x3) ∨ (v0, v1, v2, v3) = (y0, y1, y2, y3) ∨ (v0, v1, v2, v3) = (z0, z1, z2, z3) ∨ (v0, v1, v2, v3) = (u0, u1, u2, u3)) ∧
    ∀ V, (Instr.index 70 (.agg #[x0, x1, x2, x3, y0, y1, y2, y3, z0, z1, z2, z3, u0, u1, u2, u3]) (.int .i64 (m : Int))).run Try.prog V = .ok (.agg #[v0, v1, v2, v3]) V := by
  match m, h with
  | 0, _ => exact ⟨_, _, _, _, .inl rfl, fun V => by rfl⟩
  | 1, _ => exact ⟨_, _, _, _, .inr (.inl rfl), fun V => by rfl⟩
  | 2, _ => exact ⟨_, _, _, _, .inr (.inr (.inl rfl)), fun V => by rfl⟩
  | 3, _ => exact ⟨_, _, _, _, .inr (.inr (.inr rfl)), fun V => by rfl⟩
/-- append(s, ..), where what is appended lies in memory. -/
theorem wpList_app_row {w : World} {ops : Array Oper} {rest : List Oper} {o : Oper} {a : Act} {Q : Exit → Act → World → Prop} (hgd : o.guard = none) {s y : Operand} {TS E : TypeId}
    (ho : o.op = .call { callee := .builtin .append, args := #[s, y], argTypes := #[TS, TS] })
    {z : Value} {size bytes : Nat} (hts : Try.prog.underlying TS = some (.slice E)) (hie : (Try.prog.info? E).map (fun i => (i.zero, i.size, i.bytes)) = some (some z, size, bytes)) (hzs : z.cells.size = size) (hsz : 0 < size) (hby : bytes ≤ 1000)
    {base n : Nat} {v : Value} {xs : List Value} (hs : a.eval s = v) (h : w.ownsRow base E size v n xs) {ad : Addr} {m c : Nat} (news : List Value) (hy : a.eval y = .slice (some ad) m c) (hl : news.length = m * size) (hnews : ∀ (j : Nat) u, news[j]? = some u → w.cell? (ad.add j) = some u) (h1 : ∀ u ∈ news, u.oneCell' = true)
    (hm : 0 < m) (hn : n + m ≤ 1000000) (hB : base ≤ w.heap.size)
    (hk : ∀ (g' c' : Nat) w', w'.ownsRow base E size (.slice (some ⟨g', 0, none⟩) (n + m) c') (n + m) (xs ++ news) → w.grownBy w' v.ownBlock → wpList Try.prog ops Q rest (a.put o.dst (.slice (some ⟨g', 0, none⟩) (n + m) c')) w') :
    wpList Try.prog ops Q (o :: rest) a w := by
  refine wpList_plain hgd fun K hK => ?_
  obtain ⟨v', w', hr, h2, h3, h4, _⟩ := app_row w hts hie hzs hsz hby h ad m c news hl hnews h1 hm hn hB o.type
  unfold Oper.wp execOp
  simp only [ho, resolve, invoke, builtin, Sem.run_bind, Sem.run_pure, Result.andThen_ok, List.map_toArray, List.map_cons, List.map_nil, hs, hy, hr]
  rcases h2.2 with ⟨rfl, _⟩ | ⟨g', c', cur, rfl, _⟩
  · exact absurd rfl h4
  · exact hK _ _ (hk g' c' w' h2 h3)
theorem own_new (w : World) {B m size : Nat} {T : TypeId} {cs : Array Value} {vs : List Value} (hcs : cs = vs.toArray) (hB : B ≤ w.heap.size) (hl : vs.length = m * size) (hm : m ≤ 1000000) : (w.alloc (.cells cs T)).ownsRow B T size (.slice (some ⟨w.heap.size, 0, none⟩) m m) m vs := by
  subst hcs
  refine ⟨hl, .inr ⟨_, m, vs.toArray, rfl, hB, heap_alloc_new w _, Nat.le_refl _, by unfold maxLen; omega, ?_, ?_⟩⟩
  · simp only [List.size_toArray]
    exact hl
  · simp only
    rw [List.take_of_length_le (by omega)]
theorem Try.u64I : (Try.prog.info? 31).map (fun i => (i.zero, i.size, i.bytes)) = some (some (.int .u64 0), 1, 8) := by kernel_rfl
theorem Try.whoI : (Try.prog.info? 46).map (fun i => (i.zero, i.size, i.bytes)) = some (some (.agg #[.int .u64 0, .int .i64 0, .int .u64 0]), 3, 24) := by kernel_rfl
theorem Try.ruleI : (Try.prog.info? 51).map (fun i => (i.zero, i.size, i.bytes)) = some (some (.agg #[.int .i64 0, .int .i64 0, .int .i64 0, .int .i64 0, .int .i64 0, .int .i64 0, .bool false, .int .u64 0, .int .u64 0, .int .i64 0, .int .u64 0, .int .i64 0]), 12, 96) := by kernel_rfl
def EntsG (N : Nat) (P : PolP) : Prop := P.ents.length = N ∧ AllI_ EntOk P.ents
def GrpG (N : Nat) (l : List Nat) : Prop := AllI_ (fun _ g => 0 < g ∧ g < 2 ^ N) l
def PGrps (w0 : World) (gp gz N : Nat) (i : Value) (wr : World) : Prop :=
  ∃ (k : Nat) (R : Row5) (P : PolP), k ≤ 2 ∧ i = .int .i64 k ∧ PolW w0 wr gp gz R P ∧ EntsG N P ∧ (GrpG N P.grp ∧ 1 ≤ P.grp.length ∧ P.grp.length ≤ k + 1) ∧ P.who = [] ∧ P.up = [] ∧ P.rules = []
theorem append_runZ {P : Program} {o : Oper} {a : Act} {s x : Operand} {t u : TypeId} {v xv v' : Value} {w w' : World} (ho : o.op = .call { callee := .builtin .append, args := #[s, x], argTypes := #[t, u] }) (hs : a.eval s = v) (hx : a.eval x = xv)
    (hr : (Builtin.append_ #[t, u] o.type #[v, xv]).run P w = .ok v' w') : (execOp a.eval o).run P w = .ok (.value v') w' := by
  unfold execOp
  simp only [ho, resolve, invoke, builtin, Sem.run_bind, Sem.run_pure, Result.andThen_ok, List.map_toArray, List.map_cons, List.map_nil, hs, hx, hr]
/-- What a region that ends in a store to field k reads of the policy. -/
def PolS (gp : Nat) (R : Row5) (W : World) : Prop := PolC W gp R
theorem app_some (w : World) {TS E : TypeId} {z : Value} {size bytes : Nat} (hts : Try.prog.underlying TS = some (.slice E)) (hie : (Try.prog.info? E).map (fun i => (i.zero, i.size, i.bytes)) = some (some z, size, bytes)) (hzs : z.cells.size = size) (hsz : 0 < size) (hby : bytes ≤ 1000)
    {base n : Nat} {v : Value} {xs : List Value} (h : w.ownsRow base E size v n xs) (a : Addr) (m c : Nat) (news : List Value) (hl : news.length = m * size) (hnews : ∀ (j : Nat) u, news[j]? = some u → w.cell? (a.add j) = some u) (h1 : ∀ u ∈ news, u.oneCell' = true)
    (hm : 0 < m) (hn : n + m ≤ 1000000) (hB : base ≤ w.heap.size) (ty : TypeId) :
    ∃ g' c' w', (Builtin.append_ #[TS, TS] ty #[v, .slice (some a) m c]).run Try.prog w = .ok (.slice (some ⟨g', 0, none⟩) (n + m) c') w' ∧ w'.ownsRow base E size (.slice (some ⟨g', 0, none⟩) (n + m) c') (n + m) (xs ++ news) ∧ w.grownBy w' v.ownBlock := by
  obtain ⟨v', w', hr, h2, h3, h4, _⟩ := app_row w hts hie hzs hsz hby h a m c news hl hnews h1 hm hn hB ty
  rcases h2.2 with ⟨rfl, _⟩ | ⟨g', c', cur, rfl, _⟩
  · exact absurd rfl h4
  · exact ⟨g', c', w', hr, h2, h3⟩
def UpG (l : List Int) : Prop := l.length = 4 ∧ AllI_ (fun i x => -1 ≤ x ∧ x < (i : Int)) l
def WhoG (l : List WhoP) : Prop := AllI_ (fun _ x => WhoOk x) l ∧ l[0]? = some ⟨255, 3, 1⟩
def PWhos (w0 : World) (gp gz N : Nat) (i : Value) (wr : World) : Prop :=
  ∃ (k : Nat) (R : Row5) (P : PolP), k ≤ 3 ∧ i = .int .i64 k ∧ PolW w0 wr gp gz R P ∧ EntsG N P ∧ (GrpG N P.grp ∧ 1 ≤ P.grp.length ∧ P.grp.length ≤ 3) ∧ UpG P.up ∧ (WhoG P.who ∧ P.who.length = k + 1) ∧ P.rules = []
def RuleOk (ne nr ng : Nat) (r : RuleP) : Prop := 0 ≤ r.role ∧ r.role < (nr : Int) ∧
  ((1 ≤ r.tag ∧ r.tag ≤ 2 ∧ 1 ≤ r.verb ∧ r.verb ≤ 3 ∧ -1 ≤ r.ent ∧ r.ent < (ne : Int) ∧ r.grp = 0 ∧ r.line = 0 ∧ r.neg = false ∧ r.c0 = 0 ∧ r.c1 = 0 ∧ r.sc = 0 ∧ r.toS = 0 ∧ r.toL = 0) ∨
   (r.tag = 3 ∧ r.verb = 0 ∧ r.ent = -1 ∧ 0 ≤ r.grp ∧ r.grp < (ng : Int) ∧ 0 ≤ r.line ∧ r.line < 6 ∧ r.neg = false ∧ 1 ≤ r.c0 ∧ r.c0 ≤ 2500 ∧ r.c1 = 0 ∧ 0 ≤ r.sc ∧ r.sc ≤ 2 ∧ r.toS < 256 ∧ 0 ≤ r.toL ∧ r.toL ≤ 3))
def RulesG (ne ng : Nat) (l : List RuleP) : Prop := AllI_ (fun _ r => RuleOk ne 4 ng r) l
def actR (tag role verb ent : Int) : RuleP := ⟨tag, role, verb, ent, 0, 0, false, 0, 0, 0, 0, 0⟩
theorem actR_ok {ne nr ng : Nat} {tag role verb ent : Int} (h0 : 0 ≤ role) (h1 : role < (nr : Int)) (h2 : 1 ≤ tag) (h3 : tag ≤ 2) (h4 : 1 ≤ verb) (h5 : verb ≤ 3) (h6 : -1 ≤ ent) (h7 : ent < (ne : Int)) : RuleOk ne nr ng (actR tag role verb ent) := ⟨h0, h1, .inl ⟨h2, h3, h4, h5, h6, h7, rfl, rfl, rfl, rfl, rfl, rfl, rfl, rfl⟩⟩
def PRul (w0 : World) (gp gz N : Nat) (cond : Nat → Nat → Prop) (i : Value) (wr : World) : Prop :=
  ∃ (k : Nat) (R : Row5) (P : PolP), cond k P.rules.length ∧ i = .int .i64 k ∧ PolW w0 wr gp gz R P ∧ EntsG N P ∧ (GrpG N P.grp ∧ 1 ≤ P.grp.length ∧ P.grp.length ≤ 3) ∧ UpG P.up ∧ (WhoG P.who ∧ 2 ≤ P.who.length ∧ P.who.length ≤ 4) ∧ RulesG N P.grp.length P.rules
theorem of_small {z : Nat} {s : Int} {v : Value} (h : IsDec (z : Int) s v) (hz : z < 18446744073709551616) : v = .agg #[.bool false, .int .u64 (z : Int), .int .u64 0, .int .i64 s] := by
  obtain ⟨n, a, b, ⟨hn, ha, hb, hv⟩, rfl⟩ := h
  unfold v2 at hv
  unfold U64 at ha hb
  rw [Int.natAbs_natCast] at hv
  have hb0 : b = 0 := by omega
  have ha0 : a = (z : Int) := by omega
  have hn0 : n = false := by rw [hn, decide_eq_false (by omega)]
  rw [hb0, ha0, hn0]
theorem unit_pick {m : Nat} (h : m < 4) : ∃ (c0 : Nat) (sc : Int), 1 ≤ c0 ∧ c0 ≤ 2500 ∧ 0 ≤ sc ∧ sc ≤ 2 ∧ ∀ V, (Instr.index 70 (.agg #[.bool false, .int .u64 1, .int .u64 0, .int .i64 0, .bool false, .int .u64 100, .int .u64 0, .int .i64 0, .bool false, .int .u64 5, .int .u64 0, .int .i64 1, .bool false, .int .u64 2500, .int .u64 0, .int .i64 2]) (.int .i64 (m : Int))).run Try.prog V = .ok (.agg #[.bool false, .int .u64 (c0 : Int), .int .u64 0, .int .i64 sc]) V := by
  match m, h with
  | 0, _ => exact ⟨1, 0, by decide, by decide, by decide, by decide, fun V => by rfl⟩
  | 1, _ => exact ⟨100, 0, by decide, by decide, by decide, by decide, fun V => by rfl⟩
  | 2, _ => exact ⟨5, 1, by decide, by decide, by decide, by decide, fun V => by rfl⟩
  | 3, _ => exact ⟨2500, 2, by decide, by decide, by decide, by decide, fun V => by rfl⟩
theorem own_form {w : World} {B n size : Nat} {E : TypeId} {v : Value} {xs : List Value} (h : w.ownsRow B E size v n xs) : ∃ A c, v = .slice A n c := by
  rcases h.2 with ⟨rfl, rfl⟩ | ⟨g, c, _, rfl, _⟩
  · exact ⟨none, 0, rfl⟩
  · exact ⟨_, c, rfl⟩
def relR (role grp line : Int) (c0 : Nat) (sc : Int) (toS : Nat) (toL : Int) : RuleP := ⟨3, role, 0, -1, grp, line, false, c0, 0, sc, toS, toL⟩
theorem relR_ok {ne nr ng : Nat} {role grp line sc toL : Int} {c0 toS : Nat} (h0 : 0 ≤ role) (h1 : role < (nr : Int)) (h2 : 0 ≤ grp) (h3 : grp < (ng : Int)) (h4 : 0 ≤ line) (h5 : line < 6) (h6 : 1 ≤ c0) (h7 : c0 ≤ 2500) (h8 : 0 ≤ sc) (h9 : sc ≤ 2) (ha : toS < 256) (hb : 0 ≤ toL) (hc : toL ≤ 3) : RuleOk ne nr ng (relR role grp line c0 sc toS toL) :=
  ⟨h0, h1, .inr ⟨rfl, rfl, rfl, h2, h3, h4, h5, rfl, h6, h7, rfl, h8, h9, ha, hb, hc⟩⟩
/-- A policy that is right, of two to four entities. -/
def PolG (P : PolP) : Prop := ∃ N : Nat, 2 ≤ N ∧ N ≤ 4 ∧ EntsG N P ∧ (GrpG N P.grp ∧ 1 ≤ P.grp.length ∧ P.grp.length ≤ 3) ∧ UpG P.up ∧ (WhoG P.who ∧ 2 ≤ P.who.length ∧ P.who.length ≤ 4) ∧ RulesG N P.grp.length P.rules ∧ 7 ≤ P.rules.length ∧ P.rules.length ≤ 13
/-- It was returned; its rows are the call's own. -/
def PolRet (w : World) (e : Ending) (w' : World) : Prop := ∃ (R : Row5) (P : PolP), e = .returned (.agg #[R.e, R.g, R.h, R.u, R.r]) ∧ RowsW w.heap.size w' R P ∧ PolG P ∧ Below w.heap.size w w'
def PEnts (w0 : World) (gp gz n : Nat) (i : Value) (wr : World) : Prop :=
  ∃ (k : Nat) (R : Row5) (P : PolP), k ≤ n ∧ i = .int .i64 k ∧ PolW w0 wr gp gz R P ∧ P.ents.length = k ∧ AllI_ EntOk P.ents ∧ P.grp = [] ∧ P.who = [] ∧ P.up = [] ∧ P.rules = []
set_option maxRecDepth 100000 in
set_option maxHeartbeats 3200000 in
theorem policy_c (A : Option Addr) (n c : Nat) (xs : List Int) (w : World) (h : IL w w.heap.size A n c xs) (hn : n ≤ 9223372036854775807) :
    Calls Try.prog 20 #[.slice A n c] w (PolRet w) := by
  have HL := Lib.hid (fun (V : World) (hb : Below w.heap.size w V) => h.below hb)
  clear h
  obtain ⟨gz, hgz⟩ : ∃ g, w.heap.size = g := ⟨_, rfl⟩
  obtain ⟨W0, hW0⟩ : ∃ V, w.alloc (.cells nil5 28) = V := ⟨_, rfl⟩
  have HB0 := Lib.hid (show Below w.heap.size w W0 from by rw [← hW0]; exact bel_alloc (Below.refl _ _) _)
  have HZ0 := Lib.hid (show Blk W0 gz 28 nil5 from by rw [← hW0, ← hgz]; exact Blk.new _ _ _)
  unfold nil5 at hW0
  go_enter Try.func20, Try.ntmps20
  go_wp2_with fail
  go_wp2_with fail
  (with_reducible refine (at_c A n c w.heap.size 0 xs _ (HL.out _ HB0.out) hn (by omega) (by omega)).mono ?_)
  rintro e w' ⟨x, nq, rfl, rfl⟩
  go_wp2_with fail
  (with_reducible refine (pickB x 3 _ (by omega) (by omega)).mono ?_)
  rintro e w' ⟨m, hm, rfl, rfl⟩
  clear hW0
  obtain ⟨N, hN⟩ : ∃ N : Nat, 2 + (m : Int) = (N : Int) := ⟨2 + m, by omega⟩
  have hN2 : 2 ≤ N := by omega
  have hN4 : N ≤ 4 := by omega
  have hP1 := PolW.start HB0.out HZ0.out (by omega)
  unfold nil5 at hP1
  obtain ⟨gp, hgp⟩ : ∃ g, W0.heap.size = g := ⟨_, rfl⟩
  obtain ⟨W1, hW1⟩ : ∃ V, W0.alloc (.cells #[.slice none 0 0, .slice none 0 0, .slice none 0 0, .slice none 0 0, .slice none 0 0] 28) = V := ⟨_, rfl⟩
  rw [hW1, hgp] at hP1
  have HP1 := Lib.hid (hP1.drewN nq)
  have HW1 := Lib.hid hW1
  have HGP := Lib.hid hgp
  clear hm hP1 hW1 hgp
  go_wp2
  rw [HW1.out, HGP.out]
  clear HGP HW1 hgz HB0 HZ0
  go_loopw [5] (fun i wr => PEnts w gp gz N i wr) (fun i _ => N - (intOf i).toNat)
  case atStart => exact ⟨0, _, _, by omega, rfl, HP1.out, rfl, AllI_.nil_ _, rfl, rfl, rfl, rfl⟩
  case round =>
    clear HP1
    obtain ⟨k, R, P, hk, rfl, hP, hlen, hall, hPe⟩ := hrel
    have HP := Lib.hid hP
    have HA := Lib.hid hall
    have HE := Lib.hid hPe
    clear hP hall hPe
    by_cases hlt : k < N
    · have hlt' : (k : Int) < (N : Int) := by omega
      go_wp2_with fail
      (with_reducible refine (at_c A n c w.heap.size (1 + (k : Int)) xs _ (HL.out _ HP.out.bel) hn (by omega) (by omega)).mono ?_)
      rintro e w' ⟨x, nq, rfl, rfl⟩
      go_wp2_with fail
      (with_reducible refine (pickB x 4 _ (by omega) (by omega)).mono ?_)
      rintro e w' ⟨m1, hm1, rfl, rfl⟩
      go_wp2_with fail
      (with_reducible refine (at_c A n c w.heap.size (5 + (k : Int)) xs _ (HL.out _ (belDr HP.out.bel _)) hn (by omega) (by omega)).mono ?_)
      rintro e w' ⟨x, nq, rfl, rfl⟩
      go_wp2_with fail
      (with_reducible refine (pickB x 4 _ (by omega) (by omega)).mono ?_)
      rintro e w' ⟨m2, hm2, rfl, rfl⟩
      obtain ⟨s, hs0, hs4, hidx⟩ := polIdx4 (m := m2) (by omega)
      by_cases hk0 : 0 < k
      · have hk0' : (0 : Int) < (k : Int) := by omega
        go_wp2_with fail
        (with_reducible refine (at_c A n c w.heap.size (9 + (k : Int)) xs _ (HL.out _ (belDr (bel_alloc HP.out.bel _) _)) hn (by omega) (by omega)).mono ?_)
        rintro e w' ⟨x, nq, rfl, rfl⟩
        go_wp2_with fail
        (with_reducible refine (pickB x 3 _ (by omega) (by omega)).mono ?_)
        rintro e w' ⟨m3, hm3, rfl, rfl⟩
        by_cases hm3 : 0 < m3
        · have hm3' : (0 : Int) < (m3 : Int) := by omega
          go_wp2_with fail
          (with_reducible refine (at_c A n c w.heap.size (9 + (k : Int)) xs _ (HL.out _ (belDr (bel_alloc HP.out.bel _) _)) hn (by omega) (by omega)).mono ?_)
          rintro e w' ⟨x, nq, rfl, rfl⟩
          go_wp2_with fail
          (with_reducible refine (pickB _ (k : Int) _ (by omega) (by omega)).mono ?_)
          rintro e w' ⟨m4, hm4, rfl, rfl⟩
          go_wp2_with fail
          (with_reducible refine (at_c A n c w.heap.size (13 + (k : Int)) xs _ (HL.out _ (belDr (bel_alloc HP.out.bel _) _)) hn (by omega) (by omega)).mono ?_)
          rintro e w' ⟨x, nq, rfl, rfl⟩
          go_wp2_with fail
          (with_reducible refine (pickB x 10000 _ (by omega) (by omega)).mono ?_)
          rintro e w' ⟨m5, hm5, rfl, rfl⟩
          go_upto_region 10 with fail
          obtain ⟨V, hV⟩ : ∃ V, wr.alloc (.cells #[.int .i64 (m1 : Int), .int .i64 s, .int .i64 ((m4 : Int)), .int .i64 (1 + (m5 : Int))] 44) = V := ⟨_, rfl⟩
          obtain ⟨ge, hge⟩ : ∃ g, wr.heap.size = g := ⟨_, rfl⟩
          have hPV := HP.out.alloc (.cells #[.int .i64 (m1 : Int), .int .i64 s, .int .i64 ((m4 : Int)), .int .i64 (1 + (m5 : Int))] 44)
          have hBV := Blk.new wr 44 #[.int .i64 (m1 : Int), .int .i64 s, .int .i64 ((m4 : Int)), .int .i64 (1 + (m5 : Int))]
          rw [hV] at hPV hBV
          rw [hV]
          rw [hge] at hBV
          rw [hge]
          have HPV := Lib.hid hPV
          have hE0 := (hBV.cell 0).trans rfl
          have hE1 := (hBV.cell 1).trans rfl
          have hE2 := (hBV.cell 2).trans rfl
          have hE3 := (hBV.cell 3).trans rfl
          have hEl := hBV.lt
          obtain ⟨⟨hg0, hc0, hc1, hc2, hc3, hc4⟩, hfz⟩ := hPV.cells
          clear hV hge hPV hBV hidx HP
          go_wp2_with (first
            | (at_builtin; refine wpList_app_row rfl rfl Try.underlying23 Try.entI rfl (by decide) (by decide) rfl ((HPV.out.alloc _).drewN _).own_e (entV ⟨(m1 : Int), s, (m4 : Int), 1 + (m5 : Int)⟩) rfl rfl ?c1 ?c2 (by decide) ?c4 ?c5 ?_)
            | go_in)
          case c1 => exact new_cells V _ (entV ⟨(m1 : Int), s, (m4 : Int), 1 + (m5 : Int)⟩)
          case c2 => exact entV_ones _
          case c4 => omega
          case c5 => have := HPV.out.bel.size; simp; omega
          intro g1 c1 w1 ho hg
          have hC := ((HPV.out.alloc _).drewN _).blk_e hg
          have HX := Lib.hid (((HPV.out.alloc _).drewN _).put_e hg (l' := P.ents ++ [⟨(m1 : Int), s, (m4 : Int), 1 + (m5 : Int)⟩]) (k := k + 1) (by rw [flat_snoc]; exact ho) (by simp [hlen]))
          obtain ⟨⟨hg0', hc0', hc1', hc2', hc3', hc4'⟩, hfz'⟩ := hC
          have hfz0 := hfz' 0
          clear ho hg hc0 hc1 hc2 hc3 hc4 hfz hE0 hE1 hE2 hE3 hEl hg0 HPV hfz'
          go_wp2
          go_roundw
          case rel => exact ⟨k + 1, _, _, by omega, by go_num, HX.out, by simp [hlen], HA.out.snoc (by rw [hlen]; exact ⟨by simp, by simp; omega, hs0, hs4, by simp; try omega, by simp; try omega, by simp; try omega, by simp; try omega, by simp; try omega⟩), HE.out⟩
          case measure => simp [intOf]; omega
        · have hm3' : ¬ (0 : Int) < (m3 : Int) := by omega
          go_upto_region 10 with fail
          obtain ⟨V, hV⟩ : ∃ V, wr.alloc (.cells #[.int .i64 (m1 : Int), .int .i64 s, .int .i64 (-1), .int .i64 (10000)] 44) = V := ⟨_, rfl⟩
          obtain ⟨ge, hge⟩ : ∃ g, wr.heap.size = g := ⟨_, rfl⟩
          have hPV := HP.out.alloc (.cells #[.int .i64 (m1 : Int), .int .i64 s, .int .i64 (-1), .int .i64 (10000)] 44)
          have hBV := Blk.new wr 44 #[.int .i64 (m1 : Int), .int .i64 s, .int .i64 (-1), .int .i64 (10000)]
          rw [hV] at hPV hBV
          rw [hV]
          rw [hge] at hBV
          rw [hge]
          have HPV := Lib.hid hPV
          have hE0 := (hBV.cell 0).trans rfl
          have hE1 := (hBV.cell 1).trans rfl
          have hE2 := (hBV.cell 2).trans rfl
          have hE3 := (hBV.cell 3).trans rfl
          have hEl := hBV.lt
          obtain ⟨⟨hg0, hc0, hc1, hc2, hc3, hc4⟩, hfz⟩ := hPV.cells
          clear hV hge hPV hBV hidx HP
          go_wp2_with (first
            | (at_builtin; refine wpList_app_row rfl rfl Try.underlying23 Try.entI rfl (by decide) (by decide) rfl ((HPV.out.alloc _).drewN _).own_e (entV ⟨(m1 : Int), s, -1, 10000⟩) rfl rfl ?c1 ?c2 (by decide) ?c4 ?c5 ?_)
            | go_in)
          case c1 => exact new_cells V _ (entV ⟨(m1 : Int), s, -1, 10000⟩)
          case c2 => exact entV_ones _
          case c4 => omega
          case c5 => have := HPV.out.bel.size; simp; omega
          intro g1 c1 w1 ho hg
          have hC := ((HPV.out.alloc _).drewN _).blk_e hg
          have HX := Lib.hid (((HPV.out.alloc _).drewN _).put_e hg (l' := P.ents ++ [⟨(m1 : Int), s, -1, 10000⟩]) (k := k + 1) (by rw [flat_snoc]; exact ho) (by simp [hlen]))
          obtain ⟨⟨hg0', hc0', hc1', hc2', hc3', hc4'⟩, hfz'⟩ := hC
          have hfz0 := hfz' 0
          clear ho hg hc0 hc1 hc2 hc3 hc4 hfz hE0 hE1 hE2 hE3 hEl hg0 HPV hfz'
          go_wp2
          go_roundw
          case rel => exact ⟨k + 1, _, _, by omega, by go_num, HX.out, by simp [hlen], HA.out.snoc (by rw [hlen]; exact ⟨by simp, by simp; omega, hs0, hs4, by simp; try omega, by simp; try omega, by simp; try omega, by simp; try omega, by simp; try omega⟩), HE.out⟩
          case measure => simp [intOf]; omega
      · have hk0' : ¬ (0 : Int) < (k : Int) := by omega
        go_upto_region 10 with fail
        obtain ⟨V, hV⟩ : ∃ V, wr.alloc (.cells #[.int .i64 (m1 : Int), .int .i64 s, .int .i64 (-1), .int .i64 (10000)] 44) = V := ⟨_, rfl⟩
        obtain ⟨ge, hge⟩ : ∃ g, wr.heap.size = g := ⟨_, rfl⟩
        have hPV := HP.out.alloc (.cells #[.int .i64 (m1 : Int), .int .i64 s, .int .i64 (-1), .int .i64 (10000)] 44)
        have hBV := Blk.new wr 44 #[.int .i64 (m1 : Int), .int .i64 s, .int .i64 (-1), .int .i64 (10000)]
        rw [hV] at hPV hBV
        rw [hV]
        rw [hge] at hBV
        rw [hge]
        have HPV := Lib.hid hPV
        have hE0 := (hBV.cell 0).trans rfl
        have hE1 := (hBV.cell 1).trans rfl
        have hE2 := (hBV.cell 2).trans rfl
        have hE3 := (hBV.cell 3).trans rfl
        have hEl := hBV.lt
        obtain ⟨⟨hg0, hc0, hc1, hc2, hc3, hc4⟩, hfz⟩ := hPV.cells
        clear hV hge hPV hBV hidx HP
        go_wp2_with (first
          | (at_builtin; refine wpList_app_row rfl rfl Try.underlying23 Try.entI rfl (by decide) (by decide) rfl ((HPV.out.alloc _).drewN _).own_e (entV ⟨(m1 : Int), s, -1, 10000⟩) rfl rfl ?c1 ?c2 (by decide) ?c4 ?c5 ?_)
          | go_in)
        case c1 => exact new_cells V _ (entV ⟨(m1 : Int), s, -1, 10000⟩)
        case c2 => exact entV_ones _
        case c4 => omega
        case c5 => have := HPV.out.bel.size; simp; omega
        intro g1 c1 w1 ho hg
        have hC := ((HPV.out.alloc _).drewN _).blk_e hg
        have HX := Lib.hid (((HPV.out.alloc _).drewN _).put_e hg (l' := P.ents ++ [⟨(m1 : Int), s, -1, 10000⟩]) (k := k + 1) (by rw [flat_snoc]; exact ho) (by simp [hlen]))
        obtain ⟨⟨hg0', hc0', hc1', hc2', hc3', hc4'⟩, hfz'⟩ := hC
        have hfz0 := hfz' 0
        clear ho hg hc0 hc1 hc2 hc3 hc4 hfz hE0 hE1 hE2 hE3 hEl hg0 HPV hfz'
        go_wp2
        go_roundw
        case rel => exact ⟨k + 1, _, _, by omega, by go_num, HX.out, by simp [hlen], HA.out.snoc (by rw [hlen]; exact ⟨by simp, by simp; omega, hs0, hs4, by simp; try omega, by simp; try omega, by simp; try omega, by simp; try omega, by simp; try omega⟩), HE.out⟩
        case measure => simp [intOf]; omega
    · have hlt' : ¬ (k : Int) < (N : Int) := by omega
      obtain rfl : k = N := by omega
      obtain ⟨q, hq, hq4, hq16⟩ : ∃ q : Nat, 2 ^ k = q ∧ 4 ≤ q ∧ q ≤ 16 := ⟨_, rfl, by rcases (by omega : k = 2 ∨ k = 3 ∨ k = 4) with rfl | rfl | rfl <;> decide, by rcases (by omega : k = 2 ∨ k = 3 ∨ k = 4) with rfl | rfl | rfl <;> decide⟩
      have hsu : IntKind.u64.wrap (2 ^ k) = (q : Int) := by rw [shl_few (by omega), bN_of (by omega), hq]
      have hsi : IntKind.i64.wrap (2 ^ k) = (q : Int) := by
        have e : (2 : Int) ^ k = (q : Int) := by rw [← hq]; simp
        rw [e, IntKind.wrap_i64]
        omega
      have HQ := Lib.hid hq
      have HEG := Lib.hid (show EntsG k P from ⟨hlen, HA.out⟩)
      obtain ⟨⟨hg0, hc0, hc1, hc2, hc3, hc4⟩, hfz⟩ := HP.out.cells
      have hf1 := hfz 1
      clear hq hfz HA hlen
      go_upto_block 2 with fail
      have hX := (HP.out.alloc (.cells #[.int .u64 ((q : Int) - 1)] 31)).put_g (grown_refl _ _) (l' := [q - 1]) (k := 1) (own_new wr (m := 1) (by simp [uV]; omega) HP.out.bel.size rfl (by omega)) rfl
      rw [World.setCell_alloc_past _ _ _ _ hg0] at hX
      obtain ⟨V, hV⟩ : ∃ V, (wr.setCell ⟨gp, 1, none⟩ (.slice (some ⟨wr.heap.size, 0, none⟩) 1 1)).alloc (.cells #[.int .u64 ((q : Int) - 1)] 31) = V := ⟨_, rfl⟩
      rw [hV] at hX ⊢
      have HX := Lib.hid hX
      clear hX hV hg0 hc0 hc1 hc2 hc3 hc4 hf1 HP hlt hlt' hk hN
      go_wp2
      go_loopw [8] (fun i wr => PGrps w gp gz k i wr) (fun i _ => 3 - (intOf i).toNat)
      case atStart => exact ⟨0, _, _, by omega, rfl, HX.out, HEG.out, ⟨fun i a e => by
        obtain ⟨hi, rfl⟩ : i = 0 ∧ q - 1 = a := by
          match i, e with
          | 0, e => exact ⟨rfl, by simpa using e⟩
          | i + 1, e => simp at e
        have := HQ.out
        omega, by simp, by simp⟩, HE.out.2.1, HE.out.2.2.1, HE.out.2.2.2⟩
      case round =>
        clear HX HEG HE
        obtain ⟨i, R, P, hi2, rfl, hP, hEG, hGG, hE⟩ := hrel
        have HP := Lib.hid hP
        have HEG := Lib.hid hEG
        have HGG := Lib.hid hGG
        have HE := Lib.hid hE
        clear hP hEG hGG hE
        go_wp2_with fail
        (with_reducible refine (at_c A n c w.heap.size 17 xs _ (HL.out _ HP.out.bel) hn (by omega) (by omega)).mono ?_)
        rintro e w' ⟨x, nq, rfl, rfl⟩
        go_wp2_with fail
        (with_reducible refine (pickB x 3 _ (by omega) (by omega)).mono ?_)
        rintro e w' ⟨m, hm, rfl, rfl⟩
        by_cases hlt : i < m
        · have hlt' : (i : Int) < (m : Int) := by omega
          go_wp2_with fail
          (with_reducible refine (at_c A n c w.heap.size (18 + (i : Int)) xs _ (HL.out _ (belDr HP.out.bel _)) hn (by omega) (by omega)).mono ?_)
          rintro e w' ⟨x, nq, rfl, rfl⟩
          go_wp2_with fail
          (with_reducible refine (pickB x (q : Int) _ (by omega) (by omega)).mono ?_)
          rintro e w' ⟨m2, hm2, rfl, rfl⟩
          have hu2 : IntKind.u64.wrap (m2 : Int) = (m2 : Int) := wrapN (by omega)
          by_cases hm0 : 0 < m2
          · have hm0' : (0 : Int) < (m2 : Int) := by omega
            go_upto_region 18 with fail
            obtain ⟨⟨hg0, hc0, hc1, hc2, hc3, hc4⟩, hfz⟩ := HP.out.cells
            have hlen := HGG.out.2
            clear hfz
            go_wp2_with (first
              | (at_builtin; refine wpList_app_row rfl rfl Try.underlying24 Try.u64I rfl (by decide) (by decide) rfl ((HP.out.drewN _).alloc _).own_g [uV m2] rfl rfl ?c1 ?c2 (by decide) ?c4 ?c5 ?_)
              | go_in)
            case c1 => exact new_cells wr _ [uV m2]
            case c2 => intro u hu; simp at hu; subst hu; rfl
            case c4 => omega
            case c5 => have := HP.out.bel.size; simp; omega
            intro g1 c1 w1 ho hg
            have hC := ((HP.out.alloc _).drewN _).blk_g hg
            have HX := Lib.hid (((HP.out.alloc _).drewN _).put_g hg (l' := P.grp ++ [m2]) (k := P.grp.length + 1) (by rw [List.map_append]; exact ho) (by simp))
            obtain ⟨⟨hg0', hc0', hc1', hc2', hc3', hc4'⟩, hfz'⟩ := hC
            have hfz0 := hfz' 1
            clear ho hg hc0 hc1 hc2 hc3 hc4 hg0 hfz'
            go_wp2
            go_roundw
            case rel => exact ⟨i + 1, _, _, by omega, by go_num, HX.out, HEG.out, ⟨HGG.out.1.snoc ⟨hm0, by rw [HQ.out]; omega⟩, by simp, by simp; omega⟩, HE.out⟩
            case measure => simp [intOf]; omega
          · have hm0' : ¬ (0 : Int) < (m2 : Int) := by omega
            go_wp2
            go_roundw
            case rel => exact ⟨i + 1, R, P, by omega, by go_num, HP.out.drewN _, HEG.out, ⟨HGG.out.1, HGG.out.2.1, by have := HGG.out.2.2; omega⟩, HE.out⟩
            case measure => simp [intOf]; omega
        · have hlt' : ¬ (i : Int) < (m : Int) := by omega
          go_upto_region 19 with fail
          have HGG2 := Lib.hid (show GrpG k P.grp ∧ 1 ≤ P.grp.length ∧ P.grp.length ≤ 3 from ⟨HGG.out.1, HGG.out.2.1, by have := HGG.out.2.2; omega⟩)
          clear HGG hlt hlt' hi2 hm
          go_wp2_with fail
          (with_reducible refine (at_c A n c w.heap.size 21 xs _ (HL.out _ (belDr HP.out.bel _)) hn (by omega) (by omega)).mono ?_)
          rintro e w' ⟨x, nq, rfl, rfl⟩
          go_wp2_with fail
          (with_reducible refine (pickB x 2 _ (by omega) (by omega)).mono ?_)
          rintro e w' ⟨m3, hm3, rfl, rfl⟩
          go_wp2_with fail
          (with_reducible refine (at_c A n c w.heap.size 22 xs _ (HL.out _ (belDr HP.out.bel _)) hn (by omega) (by omega)).mono ?_)
          rintro e w' ⟨x, nq, rfl, rfl⟩
          go_wp2_with fail
          (with_reducible refine (pickB x 3 _ (by omega) (by omega)).mono ?_)
          rintro e w' ⟨m4, hm4, rfl, rfl⟩
          obtain ⟨⟨hg0, hc0, hc1, hc2, hc3, hc4⟩, hfz⟩ := HP.out.cells
          have hfz3 := hfz 3
          clear hfz
          go_upto_region 20 with fail
          have hX := (HP.out.alloc (.cells #[.int .i64 (-1), .int .i64 (-1 + (m3 : Int)), .int .i64 (-1 + (m4 : Int)), .int .i64 (-1)] 3)).put_u (grown_refl _ _) (l' := [-1, -1 + (m3 : Int), -1 + (m4 : Int), -1]) (k := 4) (own_new wr (m := 4) rfl HP.out.bel.size rfl (by omega)) rfl
          rw [World.setCell_alloc_past _ _ _ _ hg0] at hX
          obtain ⟨V, hV⟩ : ∃ V, (wr.setCell ⟨gp, 3, none⟩ (.slice (some ⟨wr.heap.size, 0, none⟩) 4 4)).alloc (.cells #[.int .i64 (-1), .int .i64 (-1 + (m3 : Int)), .int .i64 (-1 + (m4 : Int)), .int .i64 (-1)] 3) = V := ⟨_, rfl⟩
          rw [hV] at hX ⊢
          have HX := Lib.hid hX
          have HU := Lib.hid (show UpG [-1, -1 + (m3 : Int), -1 + (m4 : Int), -1] from ⟨rfl, fun i a e => by
            match i, e with
            | 0, e => simp at e; omega
            | 1, e => simp at e; omega
            | 2, e => simp at e; omega
            | 3, e => simp at e; omega
            | i + 4, e => simp at e⟩)
          clear hX hV hg0 hc0 hc1 hc2 hc3 hc4 hfz3
          obtain ⟨⟨hg0, hc0, hc1, hc2, hc3, hc4⟩, hfz⟩ := HX.out.cells
          have hfz2 := hfz 2
          clear hfz
          go_upto_block 4 with fail
          have hX := (HX.out.alloc (.cells #[.int .u64 255, .int .i64 3, .int .u64 1] 46)).put_h (grown_refl _ _) (l' := [⟨255, 3, 1⟩]) (k := 1) (own_new V (m := 1) rfl HX.out.bel.size rfl (by omega)) rfl
          rw [World.setCell_alloc_past _ _ _ _ hg0] at hX
          obtain ⟨V2, hV2⟩ : ∃ X, (V.setCell ⟨gp, 2, none⟩ (.slice (some ⟨V.heap.size, 0, none⟩) 1 1)).alloc (.cells #[.int .u64 255, .int .i64 3, .int .u64 1] 46) = X := ⟨_, rfl⟩
          rw [hV2] at hX ⊢
          have HX2 := Lib.hid hX
          have HR := Lib.hid (show P.rules = [] from HE.out.2.2)
          clear hX hV2 hg0 hc0 hc1 hc2 hc3 hc4 hfz2 HX HP HE hm3 hm4
          go_wp2
          go_loopw [10] (fun i wr => PWhos w gp gz k i wr) (fun i _ => 4 - (intOf i).toNat)
          case atStart => exact ⟨0, _, _, by omega, rfl, HX2.out.drewN _, HEG.out, HGG2.out, HU.out, ⟨⟨fun i a e => by
            match i, e with
            | 0, e => simp at e; subst e; exact ⟨by decide, by decide, by decide, by decide⟩
            | i + 1, e => simp at e, rfl⟩, rfl⟩, HR.out⟩
          case round =>
            clear HX2 HEG HGG2 HU HR
            obtain ⟨i, R, P, hi3, rfl, hP, hEG, hGG, hU, hWG, hR⟩ := hrel
            have HP := Lib.hid hP
            have HEG := Lib.hid hEG
            have HGG := Lib.hid hGG
            have HU := Lib.hid hU
            have HWG := Lib.hid hWG
            have HR := Lib.hid hR
            clear hP hEG hGG hU hWG hR
            go_wp2_with fail
            (with_reducible refine (at_c A n c w.heap.size 23 xs _ (HL.out _ HP.out.bel) hn (by omega) (by omega)).mono ?_)
            rintro e w' ⟨x, nq, rfl, rfl⟩
            go_wp2_with fail
            (with_reducible refine (pickB x 3 _ (by omega) (by omega)).mono ?_)
            rintro e w' ⟨m, hm, rfl, rfl⟩
            by_cases hlt : i < 1 + m
            · have hlt' : (i : Int) < 1 + (m : Int) := by omega
              go_wp2_with fail
              have hi10 : (i : Int) ≤ 10 := by omega
              have hsi0 : IntKind.i64.wrap (2 ^ min (IntKind.u64.wrap (k : Int)).toNat 64) = (q : Int) := by rw [wrapN (by omega), Int.toNat_natCast, Nat.min_eq_left (by omega)]; exact hsi
              have hw24 : IntKind.i64.wrap (24 + (i : Int)) = 24 + (i : Int) := by rw [IntKind.wrap_i64]; omega
              have hw27 : IntKind.i64.wrap (27 + (i : Int)) = 27 + (i : Int) := by rw [IntKind.wrap_i64]; omega
              have hw30 : IntKind.i64.wrap (30 + (i : Int)) = 30 + (i : Int) := by rw [IntKind.wrap_i64]; omega
              have HS0 := Lib.hid (show PolW w ((wr.drewN nq).drew) gp gz R P from HP.out.drewN (nq + 1))
              refine wp_region_ordz (S := PolS gp R) (z := 27) (by kernel_rfl) ?_
              refine ordz_take (v := ?_) (i := 0) (fuel := 27) (by simp; rfl) (by kernel_rfl) (by kernel_rfl) (by kernel_rfl) (by kernel_rfl) (Or.inl ⟨by rfl, fun w' hSw => ?_⟩) HS0.out.cells ?_
              rotate_left
              · go_simp
                all_goals with_reducible rfl
              simp only [Act.put, List.setIfInBounds_toArray, List.set_cons_zero, List.set_cons_succ]
              refine ordz_take (v := ?_) (i := 1) (fuel := 26) (by simp; rfl) (by kernel_rfl) (by kernel_rfl) (by kernel_rfl) (by kernel_rfl) (Or.inl ⟨by rfl, fun w' hSw => ?_⟩) HS0.out.cells ?_
              rotate_left
              · obtain ⟨⟨hg0, hc0, hc1, hc2, hc3, hc4⟩, _⟩ := hSw
                go_simp
                all_goals with_reducible rfl
              simp only [Act.put, List.setIfInBounds_toArray, List.set_cons_zero, List.set_cons_succ]
              refine ordz_take (v := ?_) (i := 2) (fuel := 25) (by simp; rfl) (by kernel_rfl) (by kernel_rfl) (by kernel_rfl) (by kernel_rfl) (Or.inl ⟨by rfl, fun w' hSw => ?_⟩) HS0.out.cells ?_
              rotate_left
              · go_simp
                all_goals with_reducible rfl
              simp only [Act.put, List.setIfInBounds_toArray, List.set_cons_zero, List.set_cons_succ]
              refine ordz_take (v := ?_) (i := 3) (fuel := 24) (by simp; rfl) (by kernel_rfl) (by kernel_rfl) (by kernel_rfl) (by kernel_rfl) (Or.inl ⟨by rfl, fun w' hSw => ?_⟩) HS0.out.cells ?_
              rotate_left
              · go_simp
                all_goals with_reducible rfl
              simp only [Act.put, List.setIfInBounds_toArray, List.set_cons_zero, List.set_cons_succ]
              refine ordz_take (v := ?_) (i := 4) (fuel := 23) (by simp; rfl) (by kernel_rfl) (by kernel_rfl) (by kernel_rfl) (by kernel_rfl) (Or.inl ⟨by rfl, fun w' hSw => ?_⟩) HS0.out.cells ?_
              rotate_left
              · go_simp
                all_goals with_reducible rfl
              simp only [Act.put, List.setIfInBounds_toArray, List.set_cons_zero, List.set_cons_succ]
              refine ordz_take (v := ?_) (i := 6) (fuel := 22) (by simp; rfl) (by kernel_rfl) (by kernel_rfl) (by kernel_rfl) (by kernel_rfl) (Or.inl ⟨by rfl, fun w' hSw => ?_⟩) HS0.out.cells ?_
              rotate_left
              · go_simp
                all_goals with_reducible rfl
              simp only [Act.put, List.setIfInBounds_toArray, List.set_cons_zero, List.set_cons_succ]
              refine ordz_take (v := ?_) (i := 7) (fuel := 21) (by simp; rfl) (by kernel_rfl) (by kernel_rfl) (by kernel_rfl) (by kernel_rfl) (Or.inl ⟨by rfl, fun w' hSw => ?_⟩) HS0.out.cells ?_
              rotate_left
              · go_simp
                all_goals with_reducible rfl
              simp only [Act.put, List.setIfInBounds_toArray, List.set_cons_zero, List.set_cons_succ]
              refine ordz_take (v := ?_) (i := 8) (fuel := 20) (by simp; rfl) (by kernel_rfl) (by kernel_rfl) (by kernel_rfl) (by kernel_rfl) (Or.inl ⟨by rfl, fun w' hSw => ?_⟩) HS0.out.cells ?_
              rotate_left
              · go_simp
                all_goals with_reducible rfl
              simp only [Act.put, List.setIfInBounds_toArray, List.set_cons_zero, List.set_cons_succ]
              refine ordz_take (v := ?_) (i := 11) (fuel := 19) (by simp; rfl) (by kernel_rfl) (by kernel_rfl) (by kernel_rfl) (by kernel_rfl) (Or.inl ⟨by rfl, fun w' hSw => ?_⟩) HS0.out.cells ?_
              rotate_left
              · go_simp
                all_goals with_reducible rfl
              simp only [Act.put, List.setIfInBounds_toArray, List.set_cons_zero, List.set_cons_succ]
              refine ordz_take (v := ?_) (i := 12) (fuel := 18) (by simp; rfl) (by kernel_rfl) (by kernel_rfl) (by kernel_rfl) (by kernel_rfl) (Or.inl ⟨by rfl, fun w' hSw => ?_⟩) HS0.out.cells ?_
              rotate_left
              · go_simp
                all_goals with_reducible rfl
              simp only [Act.put, List.setIfInBounds_toArray, List.set_cons_zero, List.set_cons_succ]
              refine ordz_take (v := ?_) (i := 13) (fuel := 17) (by simp; rfl) (by kernel_rfl) (by kernel_rfl) (by kernel_rfl) (by kernel_rfl) (Or.inl ⟨by rfl, fun w' hSw => ?_⟩) HS0.out.cells ?_
              rotate_left
              · go_simp
                all_goals with_reducible rfl
              simp only [Act.put, List.setIfInBounds_toArray, List.set_cons_zero, List.set_cons_succ]
              refine ordz_take (v := ?_) (i := 17) (fuel := 16) (by simp; rfl) (by kernel_rfl) (by kernel_rfl) (by kernel_rfl) (by kernel_rfl) (Or.inl ⟨by rfl, fun w' hSw => ?_⟩) HS0.out.cells ?_
              rotate_left
              · go_simp
                all_goals with_reducible rfl
              simp only [Act.put, List.setIfInBounds_toArray, List.set_cons_zero, List.set_cons_succ]
              refine ordz_take (v := ?_) (i := 18) (fuel := 15) (by simp; rfl) (by kernel_rfl) (by kernel_rfl) (by kernel_rfl) (by kernel_rfl) (Or.inl ⟨by rfl, fun w' hSw => ?_⟩) HS0.out.cells ?_
              rotate_left
              · go_simp
                all_goals with_reducible rfl
              simp only [Act.put, List.setIfInBounds_toArray, List.set_cons_zero, List.set_cons_succ]
              refine ordz_take (v := ?_) (i := 19) (fuel := 14) (by simp; rfl) (by kernel_rfl) (by kernel_rfl) (by kernel_rfl) (by kernel_rfl) (Or.inl ⟨by rfl, fun w' hSw => ?_⟩) HS0.out.cells ?_
              rotate_left
              · go_simp
                all_goals with_reducible rfl
              simp only [Act.put, List.setIfInBounds_toArray, List.set_cons_zero, List.set_cons_succ]
              refine ordz_call (f := 42) (args := #[.slice A n c, .int .i64 (24 + (i : Int))]) (w1 := (wr.drewN nq).drew) (i := 5) (fuel := 13) (by simp; rfl) (by kernel_rfl) (by rfl) ?_ ?_
              · go_simp
                all_goals with_reducible rfl
              (with_reducible refine (at_c A n c w.heap.size (24 + (i : Int)) xs _ (HL.out _ HS0.out.bel) hn (by omega) (by omega)).mono ?_)
              rintro e w5 ⟨x5, q5, rfl, hw⟩
              have HS5 := Lib.hid (show PolW w w5 gp gz R P from by rw [hw]; exact HS0.out.drewN _)
              clear hw
              refine ⟨_, rfl, .inr HS5.out.cells, ?_⟩
              simp only [Act.put, List.setIfInBounds_toArray, List.set_cons_zero, List.set_cons_succ]
              refine ordz_call (f := 5) (args := #[.int .i64 x5, .int .i64 (q : Int)]) (w1 := w5) (i := 9) (fuel := 12) (by simp; rfl) (by kernel_rfl) (by rfl) ?_ ?_
              · go_simp
                all_goals with_reducible rfl
              (with_reducible refine (pickB x5 (q : Int) _ (by omega) (by omega)).mono ?_)
              rintro e w' ⟨m9, hm9, rfl, rfl⟩
              refine ⟨_, rfl, .inr HS5.out.cells, ?_⟩
              simp only [Act.put, List.setIfInBounds_toArray, List.set_cons_zero, List.set_cons_succ]
              have hu9 : IntKind.u64.wrap (m9 : Int) = (m9 : Int) := wrapN (by omega)
              refine ordz_take (v := ?_) (i := 10) (fuel := 11) (by simp; rfl) (by kernel_rfl) (by kernel_rfl) (by kernel_rfl) (by kernel_rfl) (Or.inl ⟨by rfl, fun w' hSw => ?_⟩) HS5.out.cells ?_
              rotate_left
              · go_simp
                all_goals with_reducible rfl
              simp only [Act.put, List.setIfInBounds_toArray, List.set_cons_zero, List.set_cons_succ]
              refine ordz_call (f := 42) (args := #[.slice A n c, .int .i64 (27 + (i : Int))]) (w1 := w5) (i := 14) (fuel := 10) (by simp; rfl) (by kernel_rfl) (by rfl) ?_ ?_
              · go_simp
                all_goals with_reducible rfl
              (with_reducible refine (at_c A n c w.heap.size (27 + (i : Int)) xs _ (HL.out _ HS5.out.bel) hn (by omega) (by omega)).mono ?_)
              rintro e w14 ⟨x14, q14, rfl, hw⟩
              have HS14 := Lib.hid (show PolW w w14 gp gz R P from by rw [hw]; exact HS5.out.drewN _)
              clear hw
              refine ⟨_, rfl, .inr HS14.out.cells, ?_⟩
              simp only [Act.put, List.setIfInBounds_toArray, List.set_cons_zero, List.set_cons_succ]
              refine ordz_call (f := 5) (args := #[.int .i64 x14, .int .i64 4]) (w1 := w14) (i := 15) (fuel := 9) (by simp; rfl) (by kernel_rfl) (by rfl) ?_ ?_
              · go_simp
                all_goals with_reducible rfl
              (with_reducible refine (pickB x14 4 _ (by omega) (by omega)).mono ?_)
              rintro e w' ⟨m15, hm15, rfl, rfl⟩
              refine ⟨_, rfl, .inr HS14.out.cells, ?_⟩
              simp only [Act.put, List.setIfInBounds_toArray, List.set_cons_zero, List.set_cons_succ]
              refine ordz_take (v := ?_) (i := 16) (fuel := 8) (by simp; rfl) (by kernel_rfl) (by kernel_rfl) (by kernel_rfl) (by kernel_rfl) (Or.inl ⟨by rfl, fun w' hSw => ?_⟩) HS14.out.cells ?_
              rotate_left
              · go_simp
                all_goals with_reducible rfl
              simp only [Act.put, List.setIfInBounds_toArray, List.set_cons_zero, List.set_cons_succ]
              refine ordz_call (f := 42) (args := #[.slice A n c, .int .i64 (30 + (i : Int))]) (w1 := w14) (i := 20) (fuel := 7) (by simp; rfl) (by kernel_rfl) (by rfl) ?_ ?_
              · go_simp
                all_goals with_reducible rfl
              (with_reducible refine (at_c A n c w.heap.size (30 + (i : Int)) xs _ (HL.out _ HS14.out.bel) hn (by omega) (by omega)).mono ?_)
              rintro e w20 ⟨x20, q20, rfl, hw⟩
              have HS20 := Lib.hid (show PolW w w20 gp gz R P from by rw [hw]; exact HS14.out.drewN _)
              clear hw
              refine ⟨_, rfl, .inr HS20.out.cells, ?_⟩
              simp only [Act.put, List.setIfInBounds_toArray, List.set_cons_zero, List.set_cons_succ]
              refine ordz_call (f := 5) (args := #[.int .i64 x20, .int .i64 16]) (w1 := w20) (i := 21) (fuel := 6) (by simp; rfl) (by kernel_rfl) (by rfl) ?_ ?_
              · go_simp
                all_goals with_reducible rfl
              (with_reducible refine (pickB x20 16 _ (by omega) (by omega)).mono ?_)
              rintro e w' ⟨m21, hm21, rfl, rfl⟩
              refine ⟨_, rfl, .inr HS20.out.cells, ?_⟩
              simp only [Act.put, List.setIfInBounds_toArray, List.set_cons_zero, List.set_cons_succ]
              have hu21 : IntKind.u64.wrap (m21 : Int) = (m21 : Int) := wrapN (by omega)
              refine ordz_take (v := ?_) (i := 22) (fuel := 5) (by simp; rfl) (by kernel_rfl) (by kernel_rfl) (by kernel_rfl) (by kernel_rfl) (Or.inl ⟨by rfl, fun w' hSw => ?_⟩) HS20.out.cells ?_
              rotate_left
              · go_simp
                all_goals with_reducible rfl
              simp only [Act.put, List.setIfInBounds_toArray, List.set_cons_zero, List.set_cons_succ]
              refine ordz_take (v := ?_) (i := 23) (fuel := 4) (by simp; rfl) (by kernel_rfl) (by kernel_rfl) (by kernel_rfl) (by kernel_rfl) (Or.inl ⟨by rfl, fun w' hSw => ?_⟩) HS20.out.cells ?_
              rotate_left
              · go_simp
                all_goals with_reducible rfl
              simp only [Act.put, List.setIfInBounds_toArray, List.set_cons_zero, List.set_cons_succ]
              obtain ⟨W9, hW9⟩ : ∃ V, w20.alloc (.cells #[.int .u64 (m9 : Int), .int .i64 (m15 : Int), .int .u64 (m21 : Int)] 46) = V := ⟨_, rfl⟩
              obtain ⟨g9, hg9⟩ : ∃ g, w20.heap.size = g := ⟨_, rfl⟩
              have HS9 := Lib.hid (show PolW w W9 gp gz R P from by rw [← hW9]; exact HS20.out.alloc _)
              have hlen := HWG.out.2
              obtain ⟨gn, cn, w10, hrun, ho, hg⟩ := app_some W9 Try.underlying25 Try.whoI rfl (by decide) (by decide) HS9.out.own_h ⟨g9, 0, none⟩ 1 1 (whoV ⟨m9, (m15 : Int), m21⟩) rfl (by rw [← hW9, ← hg9]; exact new_cells w20 _ (whoV ⟨m9, (m15 : Int), m21⟩)) (whoV_ones _) (by decide) (by omega) HS9.out.bel.size 25
              have HC10 := Lib.hid (HS9.out.blk_h hg)
              have HX := Lib.hid (HS9.out.put_h hg (l' := P.who ++ [⟨m9, (m15 : Int), m21⟩]) (k := P.who.length + 1) (by rw [flat_snoc]; exact ho) (by simp))
              refine ordz_only (v := .slice (some ⟨g9, 0, none⟩) 1 1) (w' := W9) (i := 24) (fuel := 3) (by simp; rfl) (by kernel_rfl) (by rfl) ?_ (.inr HS9.out.cells) ?_
              · rw [← hW9, ← hg9]
                go_simp
                all_goals with_reducible rfl
              simp only [Act.put, List.setIfInBounds_toArray, List.set_cons_zero, List.set_cons_succ]
              refine ordz_only (v := .slice (some ⟨gn, 0, none⟩) (P.who.length + 1) cn) (w' := w10) (i := 25) (fuel := 2) (by simp; rfl) (by kernel_rfl) (by rfl) ?_ (.inr HC10.out) ?_
              · refine (append_runZ (s := .tmp 124) (x := .tmp 147) (v := R.h) (xv := .slice (some ⟨g9, 0, none⟩) 1 1) rfl (by rfl) (by rfl) hrun).trans ?_
                with_reducible rfl
              simp only [Act.put, List.setIfInBounds_toArray, List.set_cons_zero, List.set_cons_succ]
              refine ordz_take (v := ?_) (i := 26) (fuel := 1) (by simp; rfl) (by kernel_rfl) (by kernel_rfl) (by kernel_rfl) (by kernel_rfl) (Or.inl ⟨by rfl, fun w' hSw => ?_⟩) HC10.out ?_
              rotate_left
              · go_simp
                all_goals with_reducible rfl
              simp only [Act.put, List.setIfInBounds_toArray, List.set_cons_zero, List.set_cons_succ]
              obtain ⟨⟨hg0', hc0', hc1', hc2', hc3', hc4'⟩, hfz'⟩ := HC10.out
              have hfz0 := hfz' 2
              refine ordz_skip (w' := w10.setCell ⟨gp, 2, none⟩ (.slice (some ⟨gn, 0, none⟩) (P.who.length + 1) cn)) (i := 27) (fuel := 0) (by simp; rfl) (by kernel_rfl) (by rfl) (by rfl) ?_ (.inl rfl) ?_
              · go_simp
                all_goals with_reducible rfl
              refine ordz_done (by kernel_rfl) ?_ _
              clear hsi0 hlen hw24 hw27 hw30 hrun ho hg hW9 hg9 hg0' hc0' hc1' hc2' hc3' hc4' hfz' hfz0
              go_wp2
              go_roundw
              case rel => exact ⟨i + 1, _, _, by omega, by go_num, HX.out, HEG.out, HGG.out, HU.out, ⟨⟨HWG.out.1.1.snoc (a := ⟨m9, (m15 : Int), m21⟩) ⟨show m9 < 256 by omega, show (0 : Int) ≤ (m15 : Int) by omega, show (m15 : Int) ≤ 3 by omega, show m21 < 256 by omega⟩, by rw [List.getElem?_append_left (by have := HWG.out.2; omega)]; exact HWG.out.1.2⟩, by simp; exact HWG.out.2⟩, HR.out⟩
              case measure => simp [intOf]; omega
            · have hlt' : ¬ (i : Int) < 1 + (m : Int) := by omega
              have HWG2 := Lib.hid (show WhoG P.who ∧ 2 ≤ P.who.length ∧ P.who.length ≤ 4 from ⟨HWG.out.1, by have := HWG.out.2; omega, by have := HWG.out.2; omega⟩)
              clear HWG hlt
              go_wp2
              go_loopw [11] (fun i wr => PRul w gp gz k (fun k n => 1 ≤ k ∧ k ≤ 4 ∧ n + 2 = 2 * k) i wr) (fun i _ => 4 - (intOf i).toNat)
              case atStart => exact ⟨1, R, P, ⟨by omega, by omega, by rw [HR.out]; rfl⟩, rfl, HP.out.drewN _, HEG.out, HGG.out, HU.out, HWG2.out, by rw [HR.out]; exact AllI_.nil_ _⟩
              case round =>
                clear HP HEG HGG HU HWG2 HR hlt'
                obtain ⟨i, R, P, ⟨hi1, hi4, hln⟩, rfl, hP, hEG, hGG, hU, hWG, hR⟩ := hrel
                have HP := Lib.hid hP
                have HEG := Lib.hid hEG
                have HGG := Lib.hid hGG
                have HU := Lib.hid hU
                have HWG := Lib.hid hWG
                have HR := Lib.hid hR
                clear hP hEG hGG hU hWG hR
                by_cases hlt : i ≤ 3
                · have hlt' : (i : Int) ≤ 3 := by omega
                  go_wp2_with fail
                  have hw33 : IntKind.i64.wrap (33 + (i : Int)) = 33 + (i : Int) := by rw [IntKind.wrap_i64]; omega
                  have HS0 := Lib.hid (show PolW w (wr.drew) gp gz R P from HP.out.drewN 1)
                  have HLN := Lib.hid hln
                  clear hln
                  refine wp_region_ordz (S := PolS gp R) (z := 15) (by kernel_rfl) ?_
                  refine ordz_take (v := ?_) (i := 0) (fuel := 15) (by simp; rfl) (by kernel_rfl) (by kernel_rfl) (by kernel_rfl) (by kernel_rfl) (Or.inl ⟨by rfl, fun w' hSw => ?_⟩) HS0.out.cells ?_
                  rotate_left
                  · go_simp
                    all_goals with_reducible rfl
                  simp only [Act.put, List.setIfInBounds_toArray, List.set_cons_zero, List.set_cons_succ]
                  refine ordz_take (v := ?_) (i := 1) (fuel := 14) (by simp; rfl) (by kernel_rfl) (by kernel_rfl) (by kernel_rfl) (by kernel_rfl) (Or.inl ⟨by rfl, fun w' hSw => ?_⟩) HS0.out.cells ?_
                  rotate_left
                  · obtain ⟨⟨hg0, hc0, hc1, hc2, hc3, hc4⟩, _⟩ := hSw
                    go_simp
                    all_goals with_reducible rfl
                  simp only [Act.put, List.setIfInBounds_toArray, List.set_cons_zero, List.set_cons_succ]
                  refine ordz_take (v := ?_) (i := 2) (fuel := 13) (by simp; rfl) (by kernel_rfl) (by kernel_rfl) (by kernel_rfl) (by kernel_rfl) (Or.inl ⟨by rfl, fun w' hSw => ?_⟩) HS0.out.cells ?_
                  rotate_left
                  · go_simp
                    all_goals with_reducible rfl
                  simp only [Act.put, List.setIfInBounds_toArray, List.set_cons_zero, List.set_cons_succ]
                  refine ordz_take (v := ?_) (i := 3) (fuel := 12) (by simp; rfl) (by kernel_rfl) (by kernel_rfl) (by kernel_rfl) (by kernel_rfl) (Or.inl ⟨by rfl, fun w' hSw => ?_⟩) HS0.out.cells ?_
                  rotate_left
                  · go_simp
                    all_goals with_reducible rfl
                  simp only [Act.put, List.setIfInBounds_toArray, List.set_cons_zero, List.set_cons_succ]
                  refine ordz_take (v := ?_) (i := 4) (fuel := 11) (by simp; rfl) (by kernel_rfl) (by kernel_rfl) (by kernel_rfl) (by kernel_rfl) (Or.inl ⟨by rfl, fun w' hSw => ?_⟩) HS0.out.cells ?_
                  rotate_left
                  · go_simp
                    all_goals with_reducible rfl
                  simp only [Act.put, List.setIfInBounds_toArray, List.set_cons_zero, List.set_cons_succ]
                  refine ordz_take (v := ?_) (i := 5) (fuel := 10) (by simp; rfl) (by kernel_rfl) (by kernel_rfl) (by kernel_rfl) (by kernel_rfl) (Or.inl ⟨by rfl, fun w' hSw => ?_⟩) HS0.out.cells ?_
                  rotate_left
                  · go_simp
                    all_goals with_reducible rfl
                  simp only [Act.put, List.setIfInBounds_toArray, List.set_cons_zero, List.set_cons_succ]
                  refine ordz_take (v := ?_) (i := 6) (fuel := 9) (by simp; rfl) (by kernel_rfl) (by kernel_rfl) (by kernel_rfl) (by kernel_rfl) (Or.inl ⟨by rfl, fun w' hSw => ?_⟩) HS0.out.cells ?_
                  rotate_left
                  · go_simp
                    all_goals with_reducible rfl
                  simp only [Act.put, List.setIfInBounds_toArray, List.set_cons_zero, List.set_cons_succ]
                  refine ordz_take (v := ?_) (i := 7) (fuel := 8) (by simp; rfl) (by kernel_rfl) (by kernel_rfl) (by kernel_rfl) (by kernel_rfl) (Or.inl ⟨by rfl, fun w' hSw => ?_⟩) HS0.out.cells ?_
                  rotate_left
                  · go_simp
                    all_goals with_reducible rfl
                  simp only [Act.put, List.setIfInBounds_toArray, List.set_cons_zero, List.set_cons_succ]
                  refine ordz_take (v := ?_) (i := 9) (fuel := 7) (by simp; rfl) (by kernel_rfl) (by kernel_rfl) (by kernel_rfl) (by kernel_rfl) (Or.inl ⟨by rfl, fun w' hSw => ?_⟩) HS0.out.cells ?_
                  rotate_left
                  · go_simp
                    all_goals with_reducible rfl
                  simp only [Act.put, List.setIfInBounds_toArray, List.set_cons_zero, List.set_cons_succ]
                  refine ordz_call (f := 42) (args := #[.slice A n c, .int .i64 (33 + (i : Int))]) (w1 := wr.drew) (i := 8) (fuel := 6) (by simp; rfl) (by kernel_rfl) (by rfl) ?_ ?_
                  · go_simp
                    all_goals with_reducible rfl
                  (with_reducible refine (at_c A n c w.heap.size (33 + (i : Int)) xs _ (HL.out _ HS0.out.bel) hn (by omega) (by omega)).mono ?_)
                  rintro e w8 ⟨x8, q8, rfl, hw⟩
                  have HS8 := Lib.hid (show PolW w w8 gp gz R P from by rw [hw]; exact HS0.out.drewN _)
                  clear hw
                  refine ⟨_, rfl, .inr HS8.out.cells, ?_⟩
                  simp only [Act.put, List.setIfInBounds_toArray, List.set_cons_zero, List.set_cons_succ]
                  refine ordz_call (f := 5) (args := #[.int .i64 x8, .int .i64 (k : Int)]) (w1 := w8) (i := 10) (fuel := 5) (by simp; rfl) (by kernel_rfl) (by rfl) ?_ ?_
                  · go_simp
                    all_goals with_reducible rfl
                  (with_reducible refine (pickB x8 (k : Int) _ (by omega) (by omega)).mono ?_)
                  rintro e w' ⟨m10, hm10, rfl, rfl⟩
                  refine ⟨_, rfl, .inr HS8.out.cells, ?_⟩
                  simp only [Act.put, List.setIfInBounds_toArray, List.set_cons_zero, List.set_cons_succ]
                  refine ordz_take (v := ?_) (i := 11) (fuel := 4) (by simp; rfl) (by kernel_rfl) (by kernel_rfl) (by kernel_rfl) (by kernel_rfl) (Or.inl ⟨by rfl, fun w' hSw => ?_⟩) HS8.out.cells ?_
                  rotate_left
                  · go_simp
                    all_goals with_reducible rfl
                  simp only [Act.put, List.setIfInBounds_toArray, List.set_cons_zero, List.set_cons_succ]
                  obtain ⟨W9, hW9⟩ : ∃ V, w8.alloc (.cells #[.int .i64 1, .int .i64 0, .int .i64 (i : Int), .int .i64 (-1), .int .i64 0, .int .i64 0, .bool false, .int .u64 0, .int .u64 0, .int .i64 0, .int .u64 0, .int .i64 0, .int .i64 1, .int .i64 3, .int .i64 (i : Int), .int .i64 (m10 : Int), .int .i64 0, .int .i64 0, .bool false, .int .u64 0, .int .u64 0, .int .i64 0, .int .u64 0, .int .i64 0] 51) = V := ⟨_, rfl⟩
                  obtain ⟨g9, hg9⟩ : ∃ g, w8.heap.size = g := ⟨_, rfl⟩
                  have HS9 := Lib.hid (show PolW w W9 gp gz R P from by rw [← hW9]; exact HS8.out.alloc _)
                  have hlen : P.rules.length ≤ 100 := by have := HLN.out; omega
                  obtain ⟨gn, cn, w10, hrun, ho, hg⟩ := app_some W9 Try.underlying26 Try.ruleI rfl (by decide) (by decide) HS9.out.own_r ⟨g9, 0, none⟩ 2 2 (ruleV (actR 1 0 (i : Int) (-1)) ++ ruleV (actR 1 3 (i : Int) (m10 : Int))) rfl (by rw [← hW9, ← hg9]; exact new_cells w8 _ (ruleV (actR 1 0 (i : Int) (-1)) ++ ruleV (actR 1 3 (i : Int) (m10 : Int)))) (fun u hu => by rcases List.mem_append.1 hu with h | h; exact ruleV_ones _ u h; exact ruleV_ones _ u h) (by decide) (by omega) HS9.out.bel.size 26
                  have HC10 := Lib.hid (HS9.out.blk_r hg)
                  have HX := Lib.hid (HS9.out.put_r hg (l' := P.rules ++ [actR 1 0 (i : Int) (-1), actR 1 3 (i : Int) (m10 : Int)]) (k := P.rules.length + 2) (by simpa [List.flatMap_append] using ho) (by simp))
                  refine ordz_only (v := .slice (some ⟨g9, 0, none⟩) 2 2) (w' := W9) (i := 12) (fuel := 3) (by simp; rfl) (by kernel_rfl) (by rfl) ?_ (.inr HS9.out.cells) ?_
                  · rw [← hW9, ← hg9]
                    go_simp
                    all_goals with_reducible rfl
                  simp only [Act.put, List.setIfInBounds_toArray, List.set_cons_zero, List.set_cons_succ]
                  refine ordz_only (v := .slice (some ⟨gn, 0, none⟩) (P.rules.length + 2) cn) (w' := w10) (i := 13) (fuel := 2) (by simp; rfl) (by kernel_rfl) (by rfl) ?_ (.inr HC10.out) ?_
                  · refine (append_runZ (s := .tmp 155) (x := .tmp 166) (v := R.r) (xv := .slice (some ⟨g9, 0, none⟩) 2 2) rfl (by rfl) (by rfl) hrun).trans ?_
                    with_reducible rfl
                  simp only [Act.put, List.setIfInBounds_toArray, List.set_cons_zero, List.set_cons_succ]
                  refine ordz_take (v := ?_) (i := 14) (fuel := 1) (by simp; rfl) (by kernel_rfl) (by kernel_rfl) (by kernel_rfl) (by kernel_rfl) (Or.inl ⟨by rfl, fun w' hSw => ?_⟩) HC10.out ?_
                  rotate_left
                  · go_simp
                    all_goals with_reducible rfl
                  simp only [Act.put, List.setIfInBounds_toArray, List.set_cons_zero, List.set_cons_succ]
                  obtain ⟨⟨hg0', hc0', hc1', hc2', hc3', hc4'⟩, hfz'⟩ := HC10.out
                  have hfz0 := hfz' 4
                  refine ordz_skip (w' := w10.setCell ⟨gp, 4, none⟩ (.slice (some ⟨gn, 0, none⟩) (P.rules.length + 2) cn)) (i := 15) (fuel := 0) (by simp; rfl) (by kernel_rfl) (by rfl) (by rfl) ?_ (.inl rfl) ?_
                  · go_simp
                    all_goals with_reducible rfl
                  refine ordz_done (by kernel_rfl) ?_ _
                  clear hlen hw33 hrun ho hg hW9 hg9 hg0' hc0' hc1' hc2' hc3' hc4' hfz' hfz0
                  go_wp2
                  go_roundw
                  case rel => exact ⟨i + 1, _, _, ⟨by omega, by omega, by have := HLN.out; simp; omega⟩, by go_num, HX.out, HEG.out, HGG.out, HU.out, HWG.out, by
                    have h1 := AllI_.snoc HR.out (a := actR 1 0 (i : Int) (-1)) (actR_ok (by omega) (by omega) (by omega) (by omega) (by omega) (by omega) (by omega) (by omega))
                    have h2 := h1.snoc (a := actR 1 3 (i : Int) (m10 : Int)) (actR_ok (by omega) (by omega) (by omega) (by omega) (by omega) (by omega) (by omega) (by omega))
                    unfold RulesG
                    simpa using h2⟩
                  case measure => simp [intOf]; omega
                · have hlt' : ¬ (i : Int) ≤ 3 := by omega
                  go_wp2
                  go_loopw [12] (fun i wr => PRul w gp gz k (fun k n => k ≤ 4 ∧ n = 6 + k) i wr) (fun i _ => 5 - (intOf i).toNat)
                  case atStart => exact ⟨0, R, P, ⟨by omega, by omega⟩, rfl, HP.out, HEG.out, HGG.out, HU.out, HWG.out, HR.out⟩
                  case round =>
                    clear HP HEG HGG HU HWG HR hlt' hlt hln hi1 hi4
                    obtain ⟨i, R, P, ⟨hi4, hln⟩, rfl, hP, hEG, hGG, hU, hWG, hR⟩ := hrel
                    have HP := Lib.hid hP
                    have HEG := Lib.hid hEG
                    have HGG := Lib.hid hGG
                    have HU := Lib.hid hU
                    have HWG := Lib.hid hWG
                    have HR := Lib.hid hR
                    have HLN := Lib.hid hln
                    clear hP hEG hGG hU hWG hR hln
                    go_wp2_with fail
                    (with_reducible refine (at_c A n c w.heap.size 37 xs _ (HL.out _ HP.out.bel) hn (by omega) (by omega)).mono ?_)
                    rintro e w' ⟨x, nq, rfl, rfl⟩
                    go_wp2_with fail
                    (with_reducible refine (pickB x 5 _ (by omega) (by omega)).mono ?_)
                    rintro e w' ⟨m, hm, rfl, rfl⟩
                    by_cases hlt : i < m
                    · have hlt' : (i : Int) < (m : Int) := by omega
                      go_wp2_with fail
                      (with_reducible refine (at_c A n c w.heap.size (38 + (i : Int)) xs _ (HL.out _ (belDr HP.out.bel _)) hn (by omega) (by omega)).mono ?_)
                      rintro e w' ⟨x, nq, rfl, rfl⟩
                      go_wp2_with fail
                      (with_reducible refine (pickB x 2 _ (by omega) (by omega)).mono ?_)
                      rintro e w' ⟨m1, hm1, rfl, rfl⟩
                      go_wp2_with fail
                      (with_reducible refine (at_c A n c w.heap.size (42 + (i : Int)) xs _ (HL.out _ (belDr HP.out.bel _)) hn (by omega) (by omega)).mono ?_)
                      rintro e w' ⟨x, nq, rfl, rfl⟩
                      go_wp2_with fail
                      (with_reducible refine (pickB x 2 _ (by omega) (by omega)).mono ?_)
                      rintro e w' ⟨m2, hm2, rfl, rfl⟩
                      go_wp2_with fail
                      (with_reducible refine (at_c A n c w.heap.size (46 + (i : Int)) xs _ (HL.out _ (belDr HP.out.bel _)) hn (by omega) (by omega)).mono ?_)
                      rintro e w' ⟨x, nq, rfl, rfl⟩
                      go_wp2_with fail
                      (with_reducible refine (pickB x 3 _ (by omega) (by omega)).mono ?_)
                      rintro e w' ⟨m3, hm3, rfl, rfl⟩
                      go_wp2_with fail
                      (with_reducible refine (at_c A n c w.heap.size (50 + (i : Int)) xs _ (HL.out _ (belDr HP.out.bel _)) hn (by omega) (by omega)).mono ?_)
                      rintro e w' ⟨x, nq, rfl, rfl⟩
                      go_wp2_with fail
                      (with_reducible refine (pickB x ((k : Int) + 1) _ (by omega) (by omega)).mono ?_)
                      rintro e w' ⟨m4, hm4, rfl, rfl⟩
                      go_upto_region 33 with fail
                      obtain ⟨V, hV⟩ : ∃ V, wr.alloc (.cells #[.int .i64 (1 + (m1 : Int)), .int .i64 (1 + (m2 : Int)), .int .i64 (1 + (m3 : Int)), .int .i64 ((m4 : Int) - 1), .int .i64 0, .int .i64 0, .bool false, .int .u64 0, .int .u64 0, .int .i64 0, .int .u64 0, .int .i64 0] 51) = V := ⟨_, rfl⟩
                      obtain ⟨ge, hge⟩ : ∃ g, wr.heap.size = g := ⟨_, rfl⟩
                      have hPV := HP.out.alloc (.cells #[.int .i64 (1 + (m1 : Int)), .int .i64 (1 + (m2 : Int)), .int .i64 (1 + (m3 : Int)), .int .i64 ((m4 : Int) - 1), .int .i64 0, .int .i64 0, .bool false, .int .u64 0, .int .u64 0, .int .i64 0, .int .u64 0, .int .i64 0] 51)
                      have hBV := Blk.new wr 51 #[.int .i64 (1 + (m1 : Int)), .int .i64 (1 + (m2 : Int)), .int .i64 (1 + (m3 : Int)), .int .i64 ((m4 : Int) - 1), .int .i64 0, .int .i64 0, .bool false, .int .u64 0, .int .u64 0, .int .i64 0, .int .u64 0, .int .i64 0]
                      rw [hV] at hPV hBV
                      rw [hV]
                      rw [hge] at hBV
                      rw [hge]
                      have HPV := Lib.hid hPV
                      have hE0 := (hBV.cell 0).trans rfl
                      have hE1 := (hBV.cell 1).trans rfl
                      have hE2 := (hBV.cell 2).trans rfl
                      have hE3 := (hBV.cell 3).trans rfl
                      have hE4 := (hBV.cell 4).trans rfl
                      have hE5 := (hBV.cell 5).trans rfl
                      have hE6 := (hBV.cell 6).trans rfl
                      have hE7 := (hBV.cell 7).trans rfl
                      have hE8 := (hBV.cell 8).trans rfl
                      have hE9 := (hBV.cell 9).trans rfl
                      have hE10 := (hBV.cell 10).trans rfl
                      have hE11 := (hBV.cell 11).trans rfl
                      have hEl := hBV.lt
                      obtain ⟨⟨hg0, hc0, hc1, hc2, hc3, hc4⟩, hfz⟩ := hPV.cells
                      clear hV hge hPV hBV HP hfz
                      go_wp2_with (first
                        | (at_builtin; refine wpList_app_row rfl rfl Try.underlying26 Try.ruleI rfl (by decide) (by decide) rfl ((HPV.out.alloc _).drewN _).own_r (ruleV (actR (1 + (m1 : Int)) (1 + (m2 : Int)) (1 + (m3 : Int)) ((m4 : Int) - 1))) rfl rfl ?c1 ?c2 (by decide) ?c4 ?c5 ?_)
                        | go_in)
                      case c1 => exact new_cells V _ (ruleV (actR (1 + (m1 : Int)) (1 + (m2 : Int)) (1 + (m3 : Int)) ((m4 : Int) - 1)))
                      case c2 => exact ruleV_ones _
                      case c4 => have := HLN.out; omega
                      case c5 => have := HPV.out.bel.size; simp; omega
                      intro g1 c1 w1 ho hg
                      have hC := ((HPV.out.alloc _).drewN _).blk_r hg
                      have HX := Lib.hid (((HPV.out.alloc _).drewN _).put_r hg (l' := P.rules ++ [actR (1 + (m1 : Int)) (1 + (m2 : Int)) (1 + (m3 : Int)) ((m4 : Int) - 1)]) (k := P.rules.length + 1) (by rw [flat_snoc]; exact ho) (by simp))
                      obtain ⟨⟨hg0', hc0', hc1', hc2', hc3', hc4'⟩, hfz'⟩ := hC
                      have hfz0 := hfz' 4
                      clear ho hg hc0 hc1 hc2 hc3 hc4 hE0 hE1 hE2 hE3 hE4 hE5 hE6 hE7 hE8 hE9 hE10 hE11 hEl hg0 HPV hfz'
                      go_wp2
                      go_roundw
                      case rel => exact ⟨i + 1, _, _, ⟨by omega, by have := HLN.out; simp; omega⟩, by go_num, HX.out, HEG.out, HGG.out, HU.out, HWG.out, HR.out.snoc (actR_ok (by omega) (by omega) (by omega) (by omega) (by omega) (by omega) (by omega) (by omega))⟩
                      case measure => simp [intOf]; omega
                    · have hlt' : ¬ (i : Int) < (m : Int) := by omega
                      go_wp2
                      go_loopw [14] (fun i wr => PRul w gp gz k (fun k n => k ≤ 3 ∧ 6 + k ≤ n ∧ n ≤ 10 + k) i wr) (fun i _ => 4 - (intOf i).toNat)
                      case atStart => exact ⟨0, R, P, ⟨by omega, by have := HLN.out; omega, by have := HLN.out; omega⟩, rfl, HP.out.drewN _, HEG.out, HGG.out, HU.out, HWG.out, HR.out⟩
                      case round =>
                        clear HP HEG HGG HU HWG HR hlt' hlt hi4 HLN hm
                        obtain ⟨i, R, P, ⟨hi3, hln⟩, rfl, hP, hEG, hGG, hU, hWG, hR⟩ := hrel
                        have HP := Lib.hid hP
                        have HEG := Lib.hid hEG
                        have HGG := Lib.hid hGG
                        have HUp := Lib.hid hU
                        have HWG := Lib.hid hWG
                        have HR := Lib.hid hR
                        have HLN := Lib.hid hln
                        clear hP hEG hGG hU hWG hR hln
                        go_wp2_with fail
                        (with_reducible refine (at_c A n c w.heap.size 54 xs _ (HL.out _ HP.out.bel) hn (by omega) (by omega)).mono ?_)
                        rintro e w' ⟨x, nq, rfl, rfl⟩
                        go_wp2_with fail
                        (with_reducible refine (pickB x 3 _ (by omega) (by omega)).mono ?_)
                        rintro e w' ⟨m, hm, rfl, rfl⟩
                        by_cases hlt : i < 1 + m
                        · have hlt' : (i : Int) < 1 + (m : Int) := by omega
                          go_upto_region 38 with fail
                          obtain ⟨gt, hgt⟩ : ∃ g, wr.heap.size = g := ⟨_, rfl⟩
                          obtain ⟨w0, hw0⟩ : ∃ V, (wr.alloc (.cells #[.int .u64 0, .int .i64 0] 33)).drewN nq = V := ⟨_, rfl⟩
                          have HB0 := Lib.hid (show Below wr.heap.size wr w0 from by rw [← hw0]; exact belDr (bel_alloc (Below.refl _ _) _) _)
                          have HT0 := Lib.hid (show Blk w0 gt 33 #[.int .u64 0, .int .i64 0] from by rw [← hw0, ← hgt]; exact Blk.new _ _ _)
                          rw [hw0, hgt]
                          clear hw0
                          go_wp2_with fail
                          (with_reducible refine (at_c A n c w.heap.size (58 + (i : Int)) xs _ (HL.out _ (HP.out.below HB0.out).bel) hn (by omega) (by omega)).mono ?_)
                          rintro e w1 ⟨x1, q1, rfl, hw⟩
                          have HB1 := Lib.hid (show Below wr.heap.size wr w1 from by rw [hw]; exact belDr HB0.out _)
                          have HT1 := Lib.hid (show Blk w1 gt 33 #[.int .u64 0, .int .i64 0] from by rw [hw]; exact HT0.out)
                          clear hw
                          go_wp2_with fail
                          (with_reducible refine (pickB x1 3 _ (by omega) (by omega)).mono ?_)
                          rintro e w' ⟨m1, hm1, rfl, rfl⟩
                          by_cases h2 : m1 = 2
                          · have h2' : ((m1 : Int) == 2) = true := by simp; omega
                            go_wp2_with fail
                            (with_reducible refine (at_c A n c w.heap.size (61 + (i : Int)) xs _ (HL.out _ (HP.out.below HB1.out).bel) hn (by omega) (by omega)).mono ?_)
                            rintro e w5 ⟨x5, q5, rfl, hw⟩
                            have HB5 := Lib.hid (show Below wr.heap.size wr w5 from by rw [hw]; exact belDr HB1.out _)
                            have HT5 := Lib.hid (show Blk w5 gt 33 #[.int .u64 0, .int .i64 0] from by rw [hw]; exact HT1.out)
                            clear hw
                            go_wp2_with fail
                            (with_reducible refine (pickB x5 (q : Int) _ (by omega) (by omega)).mono ?_)
                            rintro e w' ⟨m2, hm2, rfl, rfl⟩
                            have hu2 : IntKind.u64.wrap (m2 : Int) = (m2 : Int) := wrapN (by omega)
                            go_wp2_with fail
                            (with_reducible refine (at_c A n c w.heap.size (64 + (i : Int)) xs _ (HL.out _ (HP.out.below HB5.out).bel) hn (by omega) (by omega)).mono ?_)
                            rintro e w6 ⟨x6, q6, rfl, hw⟩
                            have HB6 := Lib.hid (show Below wr.heap.size wr w6 from by rw [hw]; exact belDr HB5.out _)
                            have HT6 := Lib.hid (show Blk w6 gt 33 #[.int .u64 0, .int .i64 0] from by rw [hw]; exact HT5.out)
                            clear hw
                            go_wp2_with fail
                            (with_reducible refine (pickB x6 4 _ (by omega) (by omega)).mono ?_)
                            rintro e w' ⟨m3, hm3, rfl, rfl⟩
                            have ht0 := (HT6.out.cell 0).trans rfl
                            have ht1 := (HT6.out.cell 1).trans rfl
                            have htl := HT6.out.lt
                            have hf0 := HT6.out.frozen 0
                            have hf1 := HT6.out.frozen 1
                            go_upto_region 40 with fail
                            obtain ⟨w7, hw7⟩ : ∃ V, (w6.setCell ⟨gt, 0, none⟩ (.int .u64 (m2 : Int))).setCell ⟨gt, 1, none⟩ (.int .i64 (m3 : Int)) = V := ⟨_, rfl⟩
                            have HB7 := Lib.hid (show Below wr.heap.size wr w7 from by rw [← hw7]; exact (HB6.out.setCell (p := ⟨gt, 0, none⟩) (Nat.le_of_eq hgt) _).setCell (p := ⟨gt, 1, none⟩) (Nat.le_of_eq hgt) _)
                            have HT7 := Lib.hid (show Blk w7 gt 33 #[.int .u64 (m2 : Int), .int .i64 (m3 : Int)] from by rw [← hw7]; have h := (HT6.out.set_ 0 (.int .u64 (m2 : Int))).set_ 1 (.int .i64 (m3 : Int)); simpa using h)
                            rw [hw7]
                            clear hw7 ht0 ht1 htl hf0 hf1
                            have HS0 := Lib.hid (show PolW w (w7.drew) gp gz R P from (HP.out.below HB7.out).drewN 1)
                            have HU0 := Lib.hid (show Blk (w7.drew) gt 33 #[.int .u64 (m2 : Int), .int .i64 (m3 : Int)] from HT7.out)
                            obtain ⟨Ag, cg, hRg⟩ := own_form HP.out.own_g
                            have hw67 : IntKind.i64.wrap (67 + (i : Int)) = 67 + (i : Int) := by rw [IntKind.wrap_i64]; omega
                            have hw70 : IntKind.i64.wrap (70 + (i : Int)) = 70 + (i : Int) := by rw [IntKind.wrap_i64]; omega
                            have hw73 : IntKind.i64.wrap (73 + (i : Int)) = 73 + (i : Int) := by rw [IntKind.wrap_i64]; omega
                            have hw76 : IntKind.i64.wrap (76 + (i : Int)) = 76 + (i : Int) := by rw [IntKind.wrap_i64]; omega
                            have hgl := HGG.out.2
                            obtain ⟨ng, hng⟩ : ∃ ng, P.grp.length = ng := ⟨_, rfl⟩
                            rw [hng] at hgl hRg
                            obtain ⟨mi, hmi, hmi0, hmi1⟩ : ∃ mi : Int, min (i : Int) 1 = mi ∧ 0 ≤ mi ∧ mi ≤ 1 := ⟨_, rfl, by omega, by omega⟩
                            refine wp_region_ordz (S := fun W => PolS gp R W ∧ Blk W gt 33 #[.int .u64 (m2 : Int), .int .i64 (m3 : Int)]) (z := 39) (by kernel_rfl) ?_
                            refine ordz_take (v := ?_) (i := 0) (fuel := 39) (by simp; rfl) (by kernel_rfl) (by kernel_rfl) (by kernel_rfl) (by kernel_rfl) (Or.inl ⟨by rfl, fun w' hSw => ?_⟩) ⟨HS0.out.cells, HU0.out⟩ ?_
                            rotate_left
                            · go_simp
                              all_goals with_reducible rfl
                            simp only [Act.put, List.setIfInBounds_toArray, List.set_cons_zero, List.set_cons_succ]
                            refine ordz_take (v := ?_) (i := 1) (fuel := 38) (by simp; rfl) (by kernel_rfl) (by kernel_rfl) (by kernel_rfl) (by kernel_rfl) (Or.inl ⟨by rfl, fun w' hSw => ?_⟩) ⟨HS0.out.cells, HU0.out⟩ ?_
                            rotate_left
                            · obtain ⟨⟨⟨hg0, hc0, hc1, hc2, hc3, hc4⟩, _⟩, _⟩ := hSw
                              go_simp
                              all_goals with_reducible rfl
                            simp only [Act.put, List.setIfInBounds_toArray, List.set_cons_zero, List.set_cons_succ]
                            refine ordz_take (v := ?_) (i := 2) (fuel := 37) (by simp; rfl) (by kernel_rfl) (by kernel_rfl) (by kernel_rfl) (by kernel_rfl) (Or.inl ⟨by rfl, fun w' hSw => ?_⟩) ⟨HS0.out.cells, HU0.out⟩ ?_
                            rotate_left
                            · go_simp
                              all_goals with_reducible rfl
                            simp only [Act.put, List.setIfInBounds_toArray, List.set_cons_zero, List.set_cons_succ]
                            refine ordz_take (v := ?_) (i := 3) (fuel := 36) (by simp; rfl) (by kernel_rfl) (by kernel_rfl) (by kernel_rfl) (by kernel_rfl) (Or.inl ⟨by rfl, fun w' hSw => ?_⟩) ⟨HS0.out.cells, HU0.out⟩ ?_
                            rotate_left
                            · go_simp
                              all_goals with_reducible rfl
                            simp only [Act.put, List.setIfInBounds_toArray, List.set_cons_zero, List.set_cons_succ]
                            refine ordz_take (v := ?_) (i := 4) (fuel := 35) (by simp; rfl) (by kernel_rfl) (by kernel_rfl) (by kernel_rfl) (by kernel_rfl) (Or.inl ⟨by rfl, fun w' hSw => ?_⟩) ⟨HS0.out.cells, HU0.out⟩ ?_
                            rotate_left
                            · go_simp
                              all_goals with_reducible rfl
                            simp only [Act.put, List.setIfInBounds_toArray, List.set_cons_zero, List.set_cons_succ]
                            refine ordz_take (v := ?_) (i := 5) (fuel := 34) (by simp; rfl) (by kernel_rfl) (by kernel_rfl) (by kernel_rfl) (by kernel_rfl) (Or.inl ⟨by rfl, fun w' hSw => ?_⟩) ⟨HS0.out.cells, HU0.out⟩ ?_
                            rotate_left
                            · go_simp
                              all_goals with_reducible rfl
                            simp only [Act.put, List.setIfInBounds_toArray, List.set_cons_zero, List.set_cons_succ]
                            refine ordz_take (v := ?_) (i := 6) (fuel := 33) (by simp; rfl) (by kernel_rfl) (by kernel_rfl) (by kernel_rfl) (by kernel_rfl) (Or.inl ⟨by rfl, fun w' hSw => ?_⟩) ⟨HS0.out.cells, HU0.out⟩ ?_
                            rotate_left
                            · go_simp
                              all_goals with_reducible rfl
                            simp only [Act.put, List.setIfInBounds_toArray, List.set_cons_zero, List.set_cons_succ]
                            refine ordz_take (v := ?_) (i := 10) (fuel := 32) (by simp; rfl) (by kernel_rfl) (by kernel_rfl) (by kernel_rfl) (by kernel_rfl) (Or.inl ⟨by rfl, fun w' hSw => ?_⟩) ⟨HS0.out.cells, HU0.out⟩ ?_
                            rotate_left
                            · go_simp
                              all_goals with_reducible rfl
                            simp only [Act.put, List.setIfInBounds_toArray, List.set_cons_zero, List.set_cons_succ]
                            refine ordz_take (v := ?_) (i := 11) (fuel := 31) (by simp; rfl) (by kernel_rfl) (by kernel_rfl) (by kernel_rfl) (by kernel_rfl) (Or.inl ⟨by rfl, fun w' hSw => ?_⟩) ⟨HS0.out.cells, HU0.out⟩ ?_
                            rotate_left
                            · go_simp
                              all_goals with_reducible rfl
                            simp only [Act.put, List.setIfInBounds_toArray, List.set_cons_zero, List.set_cons_succ]
                            refine ordz_take (v := ?_) (i := 12) (fuel := 30) (by simp; rfl) (by kernel_rfl) (by kernel_rfl) (by kernel_rfl) (by kernel_rfl) (Or.inl ⟨by rfl, fun w' hSw => ?_⟩) ⟨HS0.out.cells, HU0.out⟩ ?_
                            rotate_left
                            · go_simp
                              all_goals with_reducible rfl
                            simp only [Act.put, List.setIfInBounds_toArray, List.set_cons_zero, List.set_cons_succ]
                            refine ordz_take (v := ?_) (i := 14) (fuel := 29) (by simp; rfl) (by kernel_rfl) (by kernel_rfl) (by kernel_rfl) (by kernel_rfl) (Or.inl ⟨by rfl, fun w' hSw => ?_⟩) ⟨HS0.out.cells, HU0.out⟩ ?_
                            rotate_left
                            · go_simp
                              all_goals with_reducible rfl
                            simp only [Act.put, List.setIfInBounds_toArray, List.set_cons_zero, List.set_cons_succ]
                            refine ordz_take (v := ?_) (i := 15) (fuel := 28) (by simp; rfl) (by kernel_rfl) (by kernel_rfl) (by kernel_rfl) (by kernel_rfl) (Or.inl ⟨by rfl, fun w' hSw => ?_⟩) ⟨HS0.out.cells, HU0.out⟩ ?_
                            rotate_left
                            · obtain ⟨⟨⟨hg0, hc0, hc1, hc2, hc3, hc4⟩, _⟩, _⟩ := hSw
                              rw [hRg] at hc1
                              go_simp
                              all_goals with_reducible rfl
                            simp only [Act.put, List.setIfInBounds_toArray, List.set_cons_zero, List.set_cons_succ]
                            refine ordz_take (v := ?_) (i := 16) (fuel := 27) (by simp; rfl) (by kernel_rfl) (by kernel_rfl) (by kernel_rfl) (by kernel_rfl) (Or.inl ⟨by rfl, fun w' hSw => ?_⟩) ⟨HS0.out.cells, HU0.out⟩ ?_
                            rotate_left
                            · go_simp
                              all_goals with_reducible rfl
                            simp only [Act.put, List.setIfInBounds_toArray, List.set_cons_zero, List.set_cons_succ]
                            refine ordz_take (v := ?_) (i := 18) (fuel := 26) (by simp; rfl) (by kernel_rfl) (by kernel_rfl) (by kernel_rfl) (by kernel_rfl) (Or.inl ⟨by rfl, fun w' hSw => ?_⟩) ⟨HS0.out.cells, HU0.out⟩ ?_
                            rotate_left
                            · go_simp
                              all_goals with_reducible rfl
                            simp only [Act.put, List.setIfInBounds_toArray, List.set_cons_zero, List.set_cons_succ]
                            refine ordz_take (v := ?_) (i := 19) (fuel := 25) (by simp; rfl) (by kernel_rfl) (by kernel_rfl) (by kernel_rfl) (by kernel_rfl) (Or.inl ⟨by rfl, fun w' hSw => ?_⟩) ⟨HS0.out.cells, HU0.out⟩ ?_
                            rotate_left
                            · go_simp
                              all_goals with_reducible rfl
                            simp only [Act.put, List.setIfInBounds_toArray, List.set_cons_zero, List.set_cons_succ]
                            refine ordz_take (v := ?_) (i := 20) (fuel := 24) (by simp; rfl) (by kernel_rfl) (by kernel_rfl) (by kernel_rfl) (by kernel_rfl) (Or.inl ⟨by rfl, fun w' hSw => ?_⟩) ⟨HS0.out.cells, HU0.out⟩ ?_
                            rotate_left
                            · go_simp
                              all_goals with_reducible rfl
                            simp only [Act.put, List.setIfInBounds_toArray, List.set_cons_zero, List.set_cons_succ]
                            refine ordz_take (v := ?_) (i := 28) (fuel := 23) (by simp; rfl) (by kernel_rfl) (by kernel_rfl) (by kernel_rfl) (by kernel_rfl) (Or.inl ⟨by rfl, fun w' hSw => ?_⟩) ⟨HS0.out.cells, HU0.out⟩ ?_
                            rotate_left
                            · go_simp
                              all_goals with_reducible rfl
                            simp only [Act.put, List.setIfInBounds_toArray, List.set_cons_zero, List.set_cons_succ]
                            refine ordz_take (v := ?_) (i := 29) (fuel := 22) (by simp; rfl) (by kernel_rfl) (by kernel_rfl) (by kernel_rfl) (by kernel_rfl) (Or.inl ⟨by rfl, fun w' hSw => ?_⟩) ⟨HS0.out.cells, HU0.out⟩ ?_
                            rotate_left
                            · go_simp
                              all_goals with_reducible rfl
                            simp only [Act.put, List.setIfInBounds_toArray, List.set_cons_zero, List.set_cons_succ]
                            refine ordz_take (v := ?_) (i := 30) (fuel := 21) (by simp; rfl) (by kernel_rfl) (by kernel_rfl) (by kernel_rfl) (by kernel_rfl) (Or.inl ⟨by rfl, fun w' hSw => ?_⟩) ⟨HS0.out.cells, HU0.out⟩ ?_
                            rotate_left
                            · go_simp
                              all_goals with_reducible rfl
                            simp only [Act.put, List.setIfInBounds_toArray, List.set_cons_zero, List.set_cons_succ]
                            refine ordz_take (v := ?_) (i := 34) (fuel := 20) (by simp; rfl) (by kernel_rfl) (by kernel_rfl) (by kernel_rfl) (by kernel_rfl) (Or.inl ⟨by rfl, fun w' hSw => ?_⟩) ⟨HS0.out.cells, HU0.out⟩ ?_
                            rotate_left
                            · obtain ⟨_, hT⟩ := hSw
                              have ht0 := (hT.cell 0).trans rfl
                              have ht1 := (hT.cell 1).trans rfl
                              have htl := hT.lt
                              go_simp
                              all_goals with_reducible rfl
                            simp only [Act.put, List.setIfInBounds_toArray, List.set_cons_zero, List.set_cons_succ]
                            refine ordz_call (f := 42) (args := #[.slice A n c, .int .i64 (67 + (i : Int))]) (w1 := w7.drew) (i := 7) (fuel := 19) (by simp; rfl) (by kernel_rfl) (by rfl) ?_ ?_
                            · go_simp
                              all_goals with_reducible rfl
                            (with_reducible refine (at_c A n c w.heap.size (67 + (i : Int)) xs _ (HL.out _ HS0.out.bel) hn (by omega) (by omega)).mono ?_)
                            rintro e v7 ⟨x7, q7, rfl, hw⟩
                            have HS7 := Lib.hid (show PolW w v7 gp gz R P from by rw [hw]; exact HS0.out.drewN _)
                            have HU7 := Lib.hid (show Blk v7 gt 33 #[.int .u64 (m2 : Int), .int .i64 (m3 : Int)] from by rw [hw]; exact HU0.out)
                            clear hw
                            refine ⟨_, rfl, .inr ⟨HS7.out.cells, HU7.out⟩, ?_⟩
                            simp only [Act.put, List.setIfInBounds_toArray, List.set_cons_zero, List.set_cons_succ]
                            refine ordz_call (f := 5) (args := #[.int .i64 x7, .int .i64 4]) (w1 := v7) (i := 8) (fuel := 18) (by simp; rfl) (by kernel_rfl) (by rfl) ?_ ?_
                            · go_simp
                              all_goals with_reducible rfl
                            (with_reducible refine (pickB x7 4 _ (by omega) (by omega)).mono ?_)
                            rintro e w' ⟨m8, hm8, rfl, rfl⟩
                            refine ⟨_, rfl, .inr ⟨HS7.out.cells, HU7.out⟩, ?_⟩
                            simp only [Act.put, List.setIfInBounds_toArray, List.set_cons_zero, List.set_cons_succ]
                            obtain ⟨ro, hro, hro0, hro1⟩ : ∃ ro : Int, IntKind.i64.wrap (mi * (m8 : Int)) = ro ∧ 0 ≤ ro ∧ ro ≤ 3 := by
                              refine ⟨_, rfl, ?_⟩
                              rw [IntKind.wrap_i64]
                              rcases (by omega : mi = 0 ∨ mi = 1) with h | h <;> rw [h] <;> omega
                            refine ordz_take (v := ?_) (i := 9) (fuel := 17) (by simp; rfl) (by kernel_rfl) (by kernel_rfl) (by kernel_rfl) (by kernel_rfl) (Or.inl ⟨by rfl, fun w' hSw => ?_⟩) ⟨HS7.out.cells, HU7.out⟩ ?_
                            rotate_left
                            · go_simp
                              all_goals with_reducible rfl
                            simp only [Act.put, List.setIfInBounds_toArray, List.set_cons_zero, List.set_cons_succ]
                            refine ordz_call (f := 42) (args := #[.slice A n c, .int .i64 (70 + (i : Int))]) (w1 := v7) (i := 13) (fuel := 16) (by simp; rfl) (by kernel_rfl) (by rfl) ?_ ?_
                            · go_simp
                              all_goals with_reducible rfl
                            (with_reducible refine (at_c A n c w.heap.size (70 + (i : Int)) xs _ (HL.out _ HS7.out.bel) hn (by omega) (by omega)).mono ?_)
                            rintro e v13 ⟨x13, q13, rfl, hw⟩
                            have HS13 := Lib.hid (show PolW w v13 gp gz R P from by rw [hw]; exact HS7.out.drewN _)
                            have HU13 := Lib.hid (show Blk v13 gt 33 #[.int .u64 (m2 : Int), .int .i64 (m3 : Int)] from by rw [hw]; exact HU7.out)
                            clear hw
                            refine ⟨_, rfl, .inr ⟨HS13.out.cells, HU13.out⟩, ?_⟩
                            simp only [Act.put, List.setIfInBounds_toArray, List.set_cons_zero, List.set_cons_succ]
                            refine ordz_call (f := 5) (args := #[.int .i64 x13, .int .i64 (ng : Int)]) (w1 := v13) (i := 17) (fuel := 15) (by simp; rfl) (by kernel_rfl) (by rfl) ?_ ?_
                            · go_simp
                              all_goals with_reducible rfl
                            (with_reducible refine (pickB x13 (ng : Int) _ (by omega) (by omega)).mono ?_)
                            rintro e w' ⟨m17, hm17, rfl, rfl⟩
                            refine ⟨_, rfl, .inr ⟨HS13.out.cells, HU13.out⟩, ?_⟩
                            simp only [Act.put, List.setIfInBounds_toArray, List.set_cons_zero, List.set_cons_succ]
                            refine ordz_call (f := 42) (args := #[.slice A n c, .int .i64 (73 + (i : Int))]) (w1 := v13) (i := 21) (fuel := 14) (by simp; rfl) (by kernel_rfl) (by rfl) ?_ ?_
                            · go_simp
                              all_goals with_reducible rfl
                            (with_reducible refine (at_c A n c w.heap.size (73 + (i : Int)) xs _ (HL.out _ HS13.out.bel) hn (by omega) (by omega)).mono ?_)
                            rintro e v21 ⟨x21, q21, rfl, hw⟩
                            have HS21 := Lib.hid (show PolW w v21 gp gz R P from by rw [hw]; exact HS13.out.drewN _)
                            have HU21 := Lib.hid (show Blk v21 gt 33 #[.int .u64 (m2 : Int), .int .i64 (m3 : Int)] from by rw [hw]; exact HU13.out)
                            clear hw
                            refine ⟨_, rfl, .inr ⟨HS21.out.cells, HU21.out⟩, ?_⟩
                            simp only [Act.put, List.setIfInBounds_toArray, List.set_cons_zero, List.set_cons_succ]
                            refine ordz_call (f := 5) (args := #[.int .i64 x21, .int .i64 6]) (w1 := v21) (i := 22) (fuel := 13) (by simp; rfl) (by kernel_rfl) (by rfl) ?_ ?_
                            · go_simp
                              all_goals with_reducible rfl
                            (with_reducible refine (pickB x21 6 _ (by omega) (by omega)).mono ?_)
                            rintro e w' ⟨m22, hm22, rfl, rfl⟩
                            refine ⟨_, rfl, .inr ⟨HS21.out.cells, HU21.out⟩, ?_⟩
                            simp only [Act.put, List.setIfInBounds_toArray, List.set_cons_zero, List.set_cons_succ]
                            refine ordz_call (f := 43) (args := #[.int .i64 1, .int .i64 0]) (w1 := v21) (i := 23) (fuel := 12) (by simp; rfl) (by kernel_rfl) (by rfl) ?_ ?_
                            · go_simp
                              all_goals with_reducible rfl
                            (with_reducible refine (refOf_c 1 0 _ (by omega) (by omega) (by omega) (by omega)).mono ?_)
                            rintro e v23 ⟨vv, hd, rfl, hb⟩
                            have hd2 : vv = .agg #[.bool false, .int .u64 1, .int .u64 0, .int .i64 0] := of_small (z := 1) hd (by omega)
                            subst hd2
                            have HS23 := Lib.hid (HS21.out.below hb)
                            have HU23 := Lib.hid (HU21.out.below hb HU21.out.lt)
                            clear hb hd
                            refine ⟨_, rfl, .inr ⟨HS23.out.cells, HU23.out⟩, ?_⟩
                            simp only [Act.put, List.setIfInBounds_toArray, List.set_cons_zero, List.set_cons_succ]
                            refine ordz_call (f := 43) (args := #[.int .i64 100, .int .i64 0]) (w1 := v23) (i := 24) (fuel := 11) (by simp; rfl) (by kernel_rfl) (by rfl) ?_ ?_
                            · go_simp
                              all_goals with_reducible rfl
                            (with_reducible refine (refOf_c 100 0 _ (by omega) (by omega) (by omega) (by omega)).mono ?_)
                            rintro e v24 ⟨vv, hd, rfl, hb⟩
                            have hd2 : vv = .agg #[.bool false, .int .u64 100, .int .u64 0, .int .i64 0] := of_small (z := 100) hd (by omega)
                            subst hd2
                            have HS24 := Lib.hid (HS23.out.below hb)
                            have HU24 := Lib.hid (HU23.out.below hb HU23.out.lt)
                            clear hb hd
                            refine ⟨_, rfl, .inr ⟨HS24.out.cells, HU24.out⟩, ?_⟩
                            simp only [Act.put, List.setIfInBounds_toArray, List.set_cons_zero, List.set_cons_succ]
                            refine ordz_call (f := 43) (args := #[.int .i64 5, .int .i64 1]) (w1 := v24) (i := 25) (fuel := 10) (by simp; rfl) (by kernel_rfl) (by rfl) ?_ ?_
                            · go_simp
                              all_goals with_reducible rfl
                            (with_reducible refine (refOf_c 5 1 _ (by omega) (by omega) (by omega) (by omega)).mono ?_)
                            rintro e v25 ⟨vv, hd, rfl, hb⟩
                            have hd2 : vv = .agg #[.bool false, .int .u64 5, .int .u64 0, .int .i64 1] := of_small (z := 5) hd (by omega)
                            subst hd2
                            have HS25 := Lib.hid (HS24.out.below hb)
                            have HU25 := Lib.hid (HU24.out.below hb HU24.out.lt)
                            clear hb hd
                            refine ⟨_, rfl, .inr ⟨HS25.out.cells, HU25.out⟩, ?_⟩
                            simp only [Act.put, List.setIfInBounds_toArray, List.set_cons_zero, List.set_cons_succ]
                            refine ordz_call (f := 43) (args := #[.int .i64 2500, .int .i64 2]) (w1 := v25) (i := 26) (fuel := 9) (by simp; rfl) (by kernel_rfl) (by rfl) ?_ ?_
                            · go_simp
                              all_goals with_reducible rfl
                            (with_reducible refine (refOf_c 2500 2 _ (by omega) (by omega) (by omega) (by omega)).mono ?_)
                            rintro e v26 ⟨vv, hd, rfl, hb⟩
                            have hd2 : vv = .agg #[.bool false, .int .u64 2500, .int .u64 0, .int .i64 2] := of_small (z := 2500) hd (by omega)
                            subst hd2
                            have HS26 := Lib.hid (HS25.out.below hb)
                            have HU26 := Lib.hid (HU25.out.below hb HU25.out.lt)
                            clear hb hd
                            refine ⟨_, rfl, .inr ⟨HS26.out.cells, HU26.out⟩, ?_⟩
                            simp only [Act.put, List.setIfInBounds_toArray, List.set_cons_zero, List.set_cons_succ]
                            refine ordz_take (v := ?_) (i := 27) (fuel := 8) (by simp; rfl) (by kernel_rfl) (by kernel_rfl) (by kernel_rfl) (by kernel_rfl) (Or.inl ⟨by rfl, fun w' hSw => ?_⟩) ⟨HS26.out.cells, HU26.out⟩ ?_
                            rotate_left
                            · go_simp
                              all_goals with_reducible rfl
                            simp only [Act.put, List.setIfInBounds_toArray, List.set_cons_zero, List.set_cons_succ]
                            refine ordz_call (f := 42) (args := #[.slice A n c, .int .i64 (76 + (i : Int))]) (w1 := v26) (i := 31) (fuel := 7) (by simp; rfl) (by kernel_rfl) (by rfl) ?_ ?_
                            · go_simp
                              all_goals with_reducible rfl
                            (with_reducible refine (at_c A n c w.heap.size (76 + (i : Int)) xs _ (HL.out _ HS26.out.bel) hn (by omega) (by omega)).mono ?_)
                            rintro e v31 ⟨x31, q31, rfl, hw⟩
                            have HS31 := Lib.hid (show PolW w v31 gp gz R P from by rw [hw]; exact HS26.out.drewN _)
                            have HU31 := Lib.hid (show Blk v31 gt 33 #[.int .u64 (m2 : Int), .int .i64 (m3 : Int)] from by rw [hw]; exact HU26.out)
                            clear hw
                            refine ⟨_, rfl, .inr ⟨HS31.out.cells, HU31.out⟩, ?_⟩
                            simp only [Act.put, List.setIfInBounds_toArray, List.set_cons_zero, List.set_cons_succ]
                            refine ordz_call (f := 5) (args := #[.int .i64 x31, .int .i64 4]) (w1 := v31) (i := 32) (fuel := 6) (by simp; rfl) (by kernel_rfl) (by rfl) ?_ ?_
                            · go_simp
                              all_goals with_reducible rfl
                            (with_reducible refine (pickB x31 4 _ (by omega) (by omega)).mono ?_)
                            rintro e w' ⟨m32, hm32, rfl, rfl⟩
                            refine ⟨_, rfl, .inr ⟨HS31.out.cells, HU31.out⟩, ?_⟩
                            simp only [Act.put, List.setIfInBounds_toArray, List.set_cons_zero, List.set_cons_succ]
                            obtain ⟨c0, sc, hu1, hu2, hu3, hu4, hidx⟩ := unit_pick (m := m32) (by omega)
                            refine ordz_take (v := ?_) (i := 33) (fuel := 5) (by simp; rfl) (by kernel_rfl) (by kernel_rfl) (by kernel_rfl) (by kernel_rfl) (Or.inl ⟨by rfl, fun w' hSw => ?_⟩) ⟨HS31.out.cells, HU31.out⟩ ?_
                            rotate_left
                            · go_simp
                              all_goals with_reducible rfl
                            simp only [Act.put, List.setIfInBounds_toArray, List.set_cons_zero, List.set_cons_succ]
                            refine ordz_take (v := ?_) (i := 35) (fuel := 4) (by simp; rfl) (by kernel_rfl) (by kernel_rfl) (by kernel_rfl) (by kernel_rfl) (Or.inl ⟨by rfl, fun w' hSw => ?_⟩) ⟨HS31.out.cells, HU31.out⟩ ?_
                            rotate_left
                            · go_simp
                              all_goals with_reducible rfl
                            simp only [Act.put, List.setIfInBounds_toArray, List.set_cons_zero, List.set_cons_succ]
                            obtain ⟨W9, hW9⟩ : ∃ V, v31.alloc (.cells #[.int .i64 3, .int .i64 ro, .int .i64 0, .int .i64 (-1), .int .i64 (m17 : Int), .int .i64 (m22 : Int), .bool false, .int .u64 (c0 : Int), .int .u64 0, .int .i64 sc, .int .u64 (m2 : Int), .int .i64 (m3 : Int)] 51) = V := ⟨_, rfl⟩
                            obtain ⟨g9, hg9⟩ : ∃ g, v31.heap.size = g := ⟨_, rfl⟩
                            have HS9 := Lib.hid (show PolW w W9 gp gz R P from by rw [← hW9]; exact HS31.out.alloc _)
                            have HU9 := Lib.hid (show Blk W9 gt 33 #[.int .u64 (m2 : Int), .int .i64 (m3 : Int)] from by rw [← hW9]; exact HU31.out.alloc _)
                            have hlen : P.rules.length ≤ 100 := by have := HLN.out; omega
                            obtain ⟨gn, cn, w10, hrun, ho, hg⟩ := app_some W9 Try.underlying26 Try.ruleI rfl (by decide) (by decide) HS9.out.own_r ⟨g9, 0, none⟩ 1 1 (ruleV (relR ro (m17 : Int) (m22 : Int) c0 sc (m2) (m3 : Int))) rfl (by rw [← hW9, ← hg9]; exact new_cells v31 _ (ruleV (relR ro (m17 : Int) (m22 : Int) c0 sc (m2) (m3 : Int)))) (ruleV_ones _) (by decide) (by omega) HS9.out.bel.size 26
                            have HC10 := Lib.hid (HS9.out.blk_r hg)
                            have HU10 := Lib.hid (HU9.out.grown HS9.out.own_r hg (by decide))
                            have HX := Lib.hid (HS9.out.put_r hg (l' := P.rules ++ [relR ro (m17 : Int) (m22 : Int) c0 sc (m2) (m3 : Int)]) (k := P.rules.length + 1) (by rw [flat_snoc]; exact ho) (by simp))
                            refine ordz_only (v := .slice (some ⟨g9, 0, none⟩) 1 1) (w' := W9) (i := 36) (fuel := 3) (by simp; rfl) (by kernel_rfl) (by rfl) ?_ (.inr ⟨HS9.out.cells, HU9.out⟩) ?_
                            · rw [← hW9, ← hg9]
                              go_simp
                              all_goals with_reducible rfl
                            simp only [Act.put, List.setIfInBounds_toArray, List.set_cons_zero, List.set_cons_succ]
                            refine ordz_only (v := .slice (some ⟨gn, 0, none⟩) (P.rules.length + 1) cn) (w' := w10) (i := 37) (fuel := 2) (by simp; rfl) (by kernel_rfl) (by rfl) ?_ (.inr ⟨HC10.out, HU10.out⟩) ?_
                            · refine (append_runZ (s := .tmp 240) (x := .tmp 275) (v := R.r) (xv := .slice (some ⟨g9, 0, none⟩) 1 1) rfl (by rfl) (by rfl) hrun).trans ?_
                              with_reducible rfl
                            simp only [Act.put, List.setIfInBounds_toArray, List.set_cons_zero, List.set_cons_succ]
                            refine ordz_take (v := ?_) (i := 38) (fuel := 1) (by simp; rfl) (by kernel_rfl) (by kernel_rfl) (by kernel_rfl) (by kernel_rfl) (Or.inl ⟨by rfl, fun w' hSw => ?_⟩) ⟨HC10.out, HU10.out⟩ ?_
                            rotate_left
                            · go_simp
                              all_goals with_reducible rfl
                            simp only [Act.put, List.setIfInBounds_toArray, List.set_cons_zero, List.set_cons_succ]
                            obtain ⟨⟨hg0', hc0', hc1', hc2', hc3', hc4'⟩, hfz'⟩ := HC10.out
                            have hfz0 := hfz' 4
                            refine ordz_skip (w' := w10.setCell ⟨gp, 4, none⟩ (.slice (some ⟨gn, 0, none⟩) (P.rules.length + 1) cn)) (i := 39) (fuel := 0) (by simp; rfl) (by kernel_rfl) (by rfl) (by rfl) ?_ (.inl rfl) ?_
                            · go_simp
                              all_goals with_reducible rfl
                            refine ordz_done (by kernel_rfl) ?_ _
                            clear hlen hw67 hw70 hw73 hw76 hrun ho hg hW9 hg9 hg0' hc0' hc1' hc2' hc3' hc4' hfz' hfz0 hro hmi hidx
                            go_wp2
                            go_roundw
                            case rel => exact ⟨i + 1, _, _, ⟨by omega, by have := HLN.out; simp; omega, by have := HLN.out; simp; omega⟩, by go_num, HX.out, HEG.out, HGG.out, HUp.out, HWG.out, by
                              rw [← hng] at *
                              exact HR.out.snoc (relR_ok (by omega) (by omega) (by omega) (by omega) (by omega) (by omega) hu1 hu2 hu3 hu4 (by omega) (by omega) (by omega))⟩
                            case measure => simp [intOf]; omega
                          · have h2' : ((m1 : Int) == 2) = false := by simp; omega
                            go_upto_region 40 with fail
                            have HS0 := Lib.hid (show PolW w (w1.drew) gp gz R P from (HP.out.below HB1.out).drewN 1)
                            have HU0 := Lib.hid (show Blk (w1.drew) gt 33 #[.int .u64 (0 : Int), .int .i64 0] from HT1.out)
                            obtain ⟨Ag, cg, hRg⟩ := own_form HP.out.own_g
                            have hw67 : IntKind.i64.wrap (67 + (i : Int)) = 67 + (i : Int) := by rw [IntKind.wrap_i64]; omega
                            have hw70 : IntKind.i64.wrap (70 + (i : Int)) = 70 + (i : Int) := by rw [IntKind.wrap_i64]; omega
                            have hw73 : IntKind.i64.wrap (73 + (i : Int)) = 73 + (i : Int) := by rw [IntKind.wrap_i64]; omega
                            have hw76 : IntKind.i64.wrap (76 + (i : Int)) = 76 + (i : Int) := by rw [IntKind.wrap_i64]; omega
                            have hgl := HGG.out.2
                            obtain ⟨ng, hng⟩ : ∃ ng, P.grp.length = ng := ⟨_, rfl⟩
                            rw [hng] at hgl hRg
                            obtain ⟨mi, hmi, hmi0, hmi1⟩ : ∃ mi : Int, min (i : Int) 1 = mi ∧ 0 ≤ mi ∧ mi ≤ 1 := ⟨_, rfl, by omega, by omega⟩
                            refine wp_region_ordz (S := fun W => PolS gp R W ∧ Blk W gt 33 #[.int .u64 (0 : Int), .int .i64 0]) (z := 39) (by kernel_rfl) ?_
                            refine ordz_take (v := ?_) (i := 0) (fuel := 39) (by simp; rfl) (by kernel_rfl) (by kernel_rfl) (by kernel_rfl) (by kernel_rfl) (Or.inl ⟨by rfl, fun w' hSw => ?_⟩) ⟨HS0.out.cells, HU0.out⟩ ?_
                            rotate_left
                            · go_simp
                              all_goals with_reducible rfl
                            simp only [Act.put, List.setIfInBounds_toArray, List.set_cons_zero, List.set_cons_succ]
                            refine ordz_take (v := ?_) (i := 1) (fuel := 38) (by simp; rfl) (by kernel_rfl) (by kernel_rfl) (by kernel_rfl) (by kernel_rfl) (Or.inl ⟨by rfl, fun w' hSw => ?_⟩) ⟨HS0.out.cells, HU0.out⟩ ?_
                            rotate_left
                            · obtain ⟨⟨⟨hg0, hc0, hc1, hc2, hc3, hc4⟩, _⟩, _⟩ := hSw
                              go_simp
                              all_goals with_reducible rfl
                            simp only [Act.put, List.setIfInBounds_toArray, List.set_cons_zero, List.set_cons_succ]
                            refine ordz_take (v := ?_) (i := 2) (fuel := 37) (by simp; rfl) (by kernel_rfl) (by kernel_rfl) (by kernel_rfl) (by kernel_rfl) (Or.inl ⟨by rfl, fun w' hSw => ?_⟩) ⟨HS0.out.cells, HU0.out⟩ ?_
                            rotate_left
                            · go_simp
                              all_goals with_reducible rfl
                            simp only [Act.put, List.setIfInBounds_toArray, List.set_cons_zero, List.set_cons_succ]
                            refine ordz_take (v := ?_) (i := 3) (fuel := 36) (by simp; rfl) (by kernel_rfl) (by kernel_rfl) (by kernel_rfl) (by kernel_rfl) (Or.inl ⟨by rfl, fun w' hSw => ?_⟩) ⟨HS0.out.cells, HU0.out⟩ ?_
                            rotate_left
                            · go_simp
                              all_goals with_reducible rfl
                            simp only [Act.put, List.setIfInBounds_toArray, List.set_cons_zero, List.set_cons_succ]
                            refine ordz_take (v := ?_) (i := 4) (fuel := 35) (by simp; rfl) (by kernel_rfl) (by kernel_rfl) (by kernel_rfl) (by kernel_rfl) (Or.inl ⟨by rfl, fun w' hSw => ?_⟩) ⟨HS0.out.cells, HU0.out⟩ ?_
                            rotate_left
                            · go_simp
                              all_goals with_reducible rfl
                            simp only [Act.put, List.setIfInBounds_toArray, List.set_cons_zero, List.set_cons_succ]
                            refine ordz_take (v := ?_) (i := 5) (fuel := 34) (by simp; rfl) (by kernel_rfl) (by kernel_rfl) (by kernel_rfl) (by kernel_rfl) (Or.inl ⟨by rfl, fun w' hSw => ?_⟩) ⟨HS0.out.cells, HU0.out⟩ ?_
                            rotate_left
                            · go_simp
                              all_goals with_reducible rfl
                            simp only [Act.put, List.setIfInBounds_toArray, List.set_cons_zero, List.set_cons_succ]
                            refine ordz_take (v := ?_) (i := 6) (fuel := 33) (by simp; rfl) (by kernel_rfl) (by kernel_rfl) (by kernel_rfl) (by kernel_rfl) (Or.inl ⟨by rfl, fun w' hSw => ?_⟩) ⟨HS0.out.cells, HU0.out⟩ ?_
                            rotate_left
                            · go_simp
                              all_goals with_reducible rfl
                            simp only [Act.put, List.setIfInBounds_toArray, List.set_cons_zero, List.set_cons_succ]
                            refine ordz_take (v := ?_) (i := 10) (fuel := 32) (by simp; rfl) (by kernel_rfl) (by kernel_rfl) (by kernel_rfl) (by kernel_rfl) (Or.inl ⟨by rfl, fun w' hSw => ?_⟩) ⟨HS0.out.cells, HU0.out⟩ ?_
                            rotate_left
                            · go_simp
                              all_goals with_reducible rfl
                            simp only [Act.put, List.setIfInBounds_toArray, List.set_cons_zero, List.set_cons_succ]
                            refine ordz_take (v := ?_) (i := 11) (fuel := 31) (by simp; rfl) (by kernel_rfl) (by kernel_rfl) (by kernel_rfl) (by kernel_rfl) (Or.inl ⟨by rfl, fun w' hSw => ?_⟩) ⟨HS0.out.cells, HU0.out⟩ ?_
                            rotate_left
                            · go_simp
                              all_goals with_reducible rfl
                            simp only [Act.put, List.setIfInBounds_toArray, List.set_cons_zero, List.set_cons_succ]
                            refine ordz_take (v := ?_) (i := 12) (fuel := 30) (by simp; rfl) (by kernel_rfl) (by kernel_rfl) (by kernel_rfl) (by kernel_rfl) (Or.inl ⟨by rfl, fun w' hSw => ?_⟩) ⟨HS0.out.cells, HU0.out⟩ ?_
                            rotate_left
                            · go_simp
                              all_goals with_reducible rfl
                            simp only [Act.put, List.setIfInBounds_toArray, List.set_cons_zero, List.set_cons_succ]
                            refine ordz_take (v := ?_) (i := 14) (fuel := 29) (by simp; rfl) (by kernel_rfl) (by kernel_rfl) (by kernel_rfl) (by kernel_rfl) (Or.inl ⟨by rfl, fun w' hSw => ?_⟩) ⟨HS0.out.cells, HU0.out⟩ ?_
                            rotate_left
                            · go_simp
                              all_goals with_reducible rfl
                            simp only [Act.put, List.setIfInBounds_toArray, List.set_cons_zero, List.set_cons_succ]
                            refine ordz_take (v := ?_) (i := 15) (fuel := 28) (by simp; rfl) (by kernel_rfl) (by kernel_rfl) (by kernel_rfl) (by kernel_rfl) (Or.inl ⟨by rfl, fun w' hSw => ?_⟩) ⟨HS0.out.cells, HU0.out⟩ ?_
                            rotate_left
                            · obtain ⟨⟨⟨hg0, hc0, hc1, hc2, hc3, hc4⟩, _⟩, _⟩ := hSw
                              rw [hRg] at hc1
                              go_simp
                              all_goals with_reducible rfl
                            simp only [Act.put, List.setIfInBounds_toArray, List.set_cons_zero, List.set_cons_succ]
                            refine ordz_take (v := ?_) (i := 16) (fuel := 27) (by simp; rfl) (by kernel_rfl) (by kernel_rfl) (by kernel_rfl) (by kernel_rfl) (Or.inl ⟨by rfl, fun w' hSw => ?_⟩) ⟨HS0.out.cells, HU0.out⟩ ?_
                            rotate_left
                            · go_simp
                              all_goals with_reducible rfl
                            simp only [Act.put, List.setIfInBounds_toArray, List.set_cons_zero, List.set_cons_succ]
                            refine ordz_take (v := ?_) (i := 18) (fuel := 26) (by simp; rfl) (by kernel_rfl) (by kernel_rfl) (by kernel_rfl) (by kernel_rfl) (Or.inl ⟨by rfl, fun w' hSw => ?_⟩) ⟨HS0.out.cells, HU0.out⟩ ?_
                            rotate_left
                            · go_simp
                              all_goals with_reducible rfl
                            simp only [Act.put, List.setIfInBounds_toArray, List.set_cons_zero, List.set_cons_succ]
                            refine ordz_take (v := ?_) (i := 19) (fuel := 25) (by simp; rfl) (by kernel_rfl) (by kernel_rfl) (by kernel_rfl) (by kernel_rfl) (Or.inl ⟨by rfl, fun w' hSw => ?_⟩) ⟨HS0.out.cells, HU0.out⟩ ?_
                            rotate_left
                            · go_simp
                              all_goals with_reducible rfl
                            simp only [Act.put, List.setIfInBounds_toArray, List.set_cons_zero, List.set_cons_succ]
                            refine ordz_take (v := ?_) (i := 20) (fuel := 24) (by simp; rfl) (by kernel_rfl) (by kernel_rfl) (by kernel_rfl) (by kernel_rfl) (Or.inl ⟨by rfl, fun w' hSw => ?_⟩) ⟨HS0.out.cells, HU0.out⟩ ?_
                            rotate_left
                            · go_simp
                              all_goals with_reducible rfl
                            simp only [Act.put, List.setIfInBounds_toArray, List.set_cons_zero, List.set_cons_succ]
                            refine ordz_take (v := ?_) (i := 28) (fuel := 23) (by simp; rfl) (by kernel_rfl) (by kernel_rfl) (by kernel_rfl) (by kernel_rfl) (Or.inl ⟨by rfl, fun w' hSw => ?_⟩) ⟨HS0.out.cells, HU0.out⟩ ?_
                            rotate_left
                            · go_simp
                              all_goals with_reducible rfl
                            simp only [Act.put, List.setIfInBounds_toArray, List.set_cons_zero, List.set_cons_succ]
                            refine ordz_take (v := ?_) (i := 29) (fuel := 22) (by simp; rfl) (by kernel_rfl) (by kernel_rfl) (by kernel_rfl) (by kernel_rfl) (Or.inl ⟨by rfl, fun w' hSw => ?_⟩) ⟨HS0.out.cells, HU0.out⟩ ?_
                            rotate_left
                            · go_simp
                              all_goals with_reducible rfl
                            simp only [Act.put, List.setIfInBounds_toArray, List.set_cons_zero, List.set_cons_succ]
                            refine ordz_take (v := ?_) (i := 30) (fuel := 21) (by simp; rfl) (by kernel_rfl) (by kernel_rfl) (by kernel_rfl) (by kernel_rfl) (Or.inl ⟨by rfl, fun w' hSw => ?_⟩) ⟨HS0.out.cells, HU0.out⟩ ?_
                            rotate_left
                            · go_simp
                              all_goals with_reducible rfl
                            simp only [Act.put, List.setIfInBounds_toArray, List.set_cons_zero, List.set_cons_succ]
                            refine ordz_take (v := ?_) (i := 34) (fuel := 20) (by simp; rfl) (by kernel_rfl) (by kernel_rfl) (by kernel_rfl) (by kernel_rfl) (Or.inl ⟨by rfl, fun w' hSw => ?_⟩) ⟨HS0.out.cells, HU0.out⟩ ?_
                            rotate_left
                            · obtain ⟨_, hT⟩ := hSw
                              have ht0 := (hT.cell 0).trans rfl
                              have ht1 := (hT.cell 1).trans rfl
                              have htl := hT.lt
                              go_simp
                              all_goals with_reducible rfl
                            simp only [Act.put, List.setIfInBounds_toArray, List.set_cons_zero, List.set_cons_succ]
                            refine ordz_call (f := 42) (args := #[.slice A n c, .int .i64 (67 + (i : Int))]) (w1 := w1.drew) (i := 7) (fuel := 19) (by simp; rfl) (by kernel_rfl) (by rfl) ?_ ?_
                            · go_simp
                              all_goals with_reducible rfl
                            (with_reducible refine (at_c A n c w.heap.size (67 + (i : Int)) xs _ (HL.out _ HS0.out.bel) hn (by omega) (by omega)).mono ?_)
                            rintro e v7 ⟨x7, q7, rfl, hw⟩
                            have HS7 := Lib.hid (show PolW w v7 gp gz R P from by rw [hw]; exact HS0.out.drewN _)
                            have HU7 := Lib.hid (show Blk v7 gt 33 #[.int .u64 (0 : Int), .int .i64 0] from by rw [hw]; exact HU0.out)
                            clear hw
                            refine ⟨_, rfl, .inr ⟨HS7.out.cells, HU7.out⟩, ?_⟩
                            simp only [Act.put, List.setIfInBounds_toArray, List.set_cons_zero, List.set_cons_succ]
                            refine ordz_call (f := 5) (args := #[.int .i64 x7, .int .i64 4]) (w1 := v7) (i := 8) (fuel := 18) (by simp; rfl) (by kernel_rfl) (by rfl) ?_ ?_
                            · go_simp
                              all_goals with_reducible rfl
                            (with_reducible refine (pickB x7 4 _ (by omega) (by omega)).mono ?_)
                            rintro e w' ⟨m8, hm8, rfl, rfl⟩
                            refine ⟨_, rfl, .inr ⟨HS7.out.cells, HU7.out⟩, ?_⟩
                            simp only [Act.put, List.setIfInBounds_toArray, List.set_cons_zero, List.set_cons_succ]
                            obtain ⟨ro, hro, hro0, hro1⟩ : ∃ ro : Int, IntKind.i64.wrap (mi * (m8 : Int)) = ro ∧ 0 ≤ ro ∧ ro ≤ 3 := by
                              refine ⟨_, rfl, ?_⟩
                              rw [IntKind.wrap_i64]
                              rcases (by omega : mi = 0 ∨ mi = 1) with h | h <;> rw [h] <;> omega
                            refine ordz_take (v := ?_) (i := 9) (fuel := 17) (by simp; rfl) (by kernel_rfl) (by kernel_rfl) (by kernel_rfl) (by kernel_rfl) (Or.inl ⟨by rfl, fun w' hSw => ?_⟩) ⟨HS7.out.cells, HU7.out⟩ ?_
                            rotate_left
                            · go_simp
                              all_goals with_reducible rfl
                            simp only [Act.put, List.setIfInBounds_toArray, List.set_cons_zero, List.set_cons_succ]
                            refine ordz_call (f := 42) (args := #[.slice A n c, .int .i64 (70 + (i : Int))]) (w1 := v7) (i := 13) (fuel := 16) (by simp; rfl) (by kernel_rfl) (by rfl) ?_ ?_
                            · go_simp
                              all_goals with_reducible rfl
                            (with_reducible refine (at_c A n c w.heap.size (70 + (i : Int)) xs _ (HL.out _ HS7.out.bel) hn (by omega) (by omega)).mono ?_)
                            rintro e v13 ⟨x13, q13, rfl, hw⟩
                            have HS13 := Lib.hid (show PolW w v13 gp gz R P from by rw [hw]; exact HS7.out.drewN _)
                            have HU13 := Lib.hid (show Blk v13 gt 33 #[.int .u64 (0 : Int), .int .i64 0] from by rw [hw]; exact HU7.out)
                            clear hw
                            refine ⟨_, rfl, .inr ⟨HS13.out.cells, HU13.out⟩, ?_⟩
                            simp only [Act.put, List.setIfInBounds_toArray, List.set_cons_zero, List.set_cons_succ]
                            refine ordz_call (f := 5) (args := #[.int .i64 x13, .int .i64 (ng : Int)]) (w1 := v13) (i := 17) (fuel := 15) (by simp; rfl) (by kernel_rfl) (by rfl) ?_ ?_
                            · go_simp
                              all_goals with_reducible rfl
                            (with_reducible refine (pickB x13 (ng : Int) _ (by omega) (by omega)).mono ?_)
                            rintro e w' ⟨m17, hm17, rfl, rfl⟩
                            refine ⟨_, rfl, .inr ⟨HS13.out.cells, HU13.out⟩, ?_⟩
                            simp only [Act.put, List.setIfInBounds_toArray, List.set_cons_zero, List.set_cons_succ]
                            refine ordz_call (f := 42) (args := #[.slice A n c, .int .i64 (73 + (i : Int))]) (w1 := v13) (i := 21) (fuel := 14) (by simp; rfl) (by kernel_rfl) (by rfl) ?_ ?_
                            · go_simp
                              all_goals with_reducible rfl
                            (with_reducible refine (at_c A n c w.heap.size (73 + (i : Int)) xs _ (HL.out _ HS13.out.bel) hn (by omega) (by omega)).mono ?_)
                            rintro e v21 ⟨x21, q21, rfl, hw⟩
                            have HS21 := Lib.hid (show PolW w v21 gp gz R P from by rw [hw]; exact HS13.out.drewN _)
                            have HU21 := Lib.hid (show Blk v21 gt 33 #[.int .u64 (0 : Int), .int .i64 0] from by rw [hw]; exact HU13.out)
                            clear hw
                            refine ⟨_, rfl, .inr ⟨HS21.out.cells, HU21.out⟩, ?_⟩
                            simp only [Act.put, List.setIfInBounds_toArray, List.set_cons_zero, List.set_cons_succ]
                            refine ordz_call (f := 5) (args := #[.int .i64 x21, .int .i64 6]) (w1 := v21) (i := 22) (fuel := 13) (by simp; rfl) (by kernel_rfl) (by rfl) ?_ ?_
                            · go_simp
                              all_goals with_reducible rfl
                            (with_reducible refine (pickB x21 6 _ (by omega) (by omega)).mono ?_)
                            rintro e w' ⟨m22, hm22, rfl, rfl⟩
                            refine ⟨_, rfl, .inr ⟨HS21.out.cells, HU21.out⟩, ?_⟩
                            simp only [Act.put, List.setIfInBounds_toArray, List.set_cons_zero, List.set_cons_succ]
                            refine ordz_call (f := 43) (args := #[.int .i64 1, .int .i64 0]) (w1 := v21) (i := 23) (fuel := 12) (by simp; rfl) (by kernel_rfl) (by rfl) ?_ ?_
                            · go_simp
                              all_goals with_reducible rfl
                            (with_reducible refine (refOf_c 1 0 _ (by omega) (by omega) (by omega) (by omega)).mono ?_)
                            rintro e v23 ⟨vv, hd, rfl, hb⟩
                            have hd2 : vv = .agg #[.bool false, .int .u64 1, .int .u64 0, .int .i64 0] := of_small (z := 1) hd (by omega)
                            subst hd2
                            have HS23 := Lib.hid (HS21.out.below hb)
                            have HU23 := Lib.hid (HU21.out.below hb HU21.out.lt)
                            clear hb hd
                            refine ⟨_, rfl, .inr ⟨HS23.out.cells, HU23.out⟩, ?_⟩
                            simp only [Act.put, List.setIfInBounds_toArray, List.set_cons_zero, List.set_cons_succ]
                            refine ordz_call (f := 43) (args := #[.int .i64 100, .int .i64 0]) (w1 := v23) (i := 24) (fuel := 11) (by simp; rfl) (by kernel_rfl) (by rfl) ?_ ?_
                            · go_simp
                              all_goals with_reducible rfl
                            (with_reducible refine (refOf_c 100 0 _ (by omega) (by omega) (by omega) (by omega)).mono ?_)
                            rintro e v24 ⟨vv, hd, rfl, hb⟩
                            have hd2 : vv = .agg #[.bool false, .int .u64 100, .int .u64 0, .int .i64 0] := of_small (z := 100) hd (by omega)
                            subst hd2
                            have HS24 := Lib.hid (HS23.out.below hb)
                            have HU24 := Lib.hid (HU23.out.below hb HU23.out.lt)
                            clear hb hd
                            refine ⟨_, rfl, .inr ⟨HS24.out.cells, HU24.out⟩, ?_⟩
                            simp only [Act.put, List.setIfInBounds_toArray, List.set_cons_zero, List.set_cons_succ]
                            refine ordz_call (f := 43) (args := #[.int .i64 5, .int .i64 1]) (w1 := v24) (i := 25) (fuel := 10) (by simp; rfl) (by kernel_rfl) (by rfl) ?_ ?_
                            · go_simp
                              all_goals with_reducible rfl
                            (with_reducible refine (refOf_c 5 1 _ (by omega) (by omega) (by omega) (by omega)).mono ?_)
                            rintro e v25 ⟨vv, hd, rfl, hb⟩
                            have hd2 : vv = .agg #[.bool false, .int .u64 5, .int .u64 0, .int .i64 1] := of_small (z := 5) hd (by omega)
                            subst hd2
                            have HS25 := Lib.hid (HS24.out.below hb)
                            have HU25 := Lib.hid (HU24.out.below hb HU24.out.lt)
                            clear hb hd
                            refine ⟨_, rfl, .inr ⟨HS25.out.cells, HU25.out⟩, ?_⟩
                            simp only [Act.put, List.setIfInBounds_toArray, List.set_cons_zero, List.set_cons_succ]
                            refine ordz_call (f := 43) (args := #[.int .i64 2500, .int .i64 2]) (w1 := v25) (i := 26) (fuel := 9) (by simp; rfl) (by kernel_rfl) (by rfl) ?_ ?_
                            · go_simp
                              all_goals with_reducible rfl
                            (with_reducible refine (refOf_c 2500 2 _ (by omega) (by omega) (by omega) (by omega)).mono ?_)
                            rintro e v26 ⟨vv, hd, rfl, hb⟩
                            have hd2 : vv = .agg #[.bool false, .int .u64 2500, .int .u64 0, .int .i64 2] := of_small (z := 2500) hd (by omega)
                            subst hd2
                            have HS26 := Lib.hid (HS25.out.below hb)
                            have HU26 := Lib.hid (HU25.out.below hb HU25.out.lt)
                            clear hb hd
                            refine ⟨_, rfl, .inr ⟨HS26.out.cells, HU26.out⟩, ?_⟩
                            simp only [Act.put, List.setIfInBounds_toArray, List.set_cons_zero, List.set_cons_succ]
                            refine ordz_take (v := ?_) (i := 27) (fuel := 8) (by simp; rfl) (by kernel_rfl) (by kernel_rfl) (by kernel_rfl) (by kernel_rfl) (Or.inl ⟨by rfl, fun w' hSw => ?_⟩) ⟨HS26.out.cells, HU26.out⟩ ?_
                            rotate_left
                            · go_simp
                              all_goals with_reducible rfl
                            simp only [Act.put, List.setIfInBounds_toArray, List.set_cons_zero, List.set_cons_succ]
                            refine ordz_call (f := 42) (args := #[.slice A n c, .int .i64 (76 + (i : Int))]) (w1 := v26) (i := 31) (fuel := 7) (by simp; rfl) (by kernel_rfl) (by rfl) ?_ ?_
                            · go_simp
                              all_goals with_reducible rfl
                            (with_reducible refine (at_c A n c w.heap.size (76 + (i : Int)) xs _ (HL.out _ HS26.out.bel) hn (by omega) (by omega)).mono ?_)
                            rintro e v31 ⟨x31, q31, rfl, hw⟩
                            have HS31 := Lib.hid (show PolW w v31 gp gz R P from by rw [hw]; exact HS26.out.drewN _)
                            have HU31 := Lib.hid (show Blk v31 gt 33 #[.int .u64 (0 : Int), .int .i64 0] from by rw [hw]; exact HU26.out)
                            clear hw
                            refine ⟨_, rfl, .inr ⟨HS31.out.cells, HU31.out⟩, ?_⟩
                            simp only [Act.put, List.setIfInBounds_toArray, List.set_cons_zero, List.set_cons_succ]
                            refine ordz_call (f := 5) (args := #[.int .i64 x31, .int .i64 4]) (w1 := v31) (i := 32) (fuel := 6) (by simp; rfl) (by kernel_rfl) (by rfl) ?_ ?_
                            · go_simp
                              all_goals with_reducible rfl
                            (with_reducible refine (pickB x31 4 _ (by omega) (by omega)).mono ?_)
                            rintro e w' ⟨m32, hm32, rfl, rfl⟩
                            refine ⟨_, rfl, .inr ⟨HS31.out.cells, HU31.out⟩, ?_⟩
                            simp only [Act.put, List.setIfInBounds_toArray, List.set_cons_zero, List.set_cons_succ]
                            obtain ⟨c0, sc, hu1, hu2, hu3, hu4, hidx⟩ := unit_pick (m := m32) (by omega)
                            refine ordz_take (v := ?_) (i := 33) (fuel := 5) (by simp; rfl) (by kernel_rfl) (by kernel_rfl) (by kernel_rfl) (by kernel_rfl) (Or.inl ⟨by rfl, fun w' hSw => ?_⟩) ⟨HS31.out.cells, HU31.out⟩ ?_
                            rotate_left
                            · go_simp
                              all_goals with_reducible rfl
                            simp only [Act.put, List.setIfInBounds_toArray, List.set_cons_zero, List.set_cons_succ]
                            refine ordz_take (v := ?_) (i := 35) (fuel := 4) (by simp; rfl) (by kernel_rfl) (by kernel_rfl) (by kernel_rfl) (by kernel_rfl) (Or.inl ⟨by rfl, fun w' hSw => ?_⟩) ⟨HS31.out.cells, HU31.out⟩ ?_
                            rotate_left
                            · go_simp
                              all_goals with_reducible rfl
                            simp only [Act.put, List.setIfInBounds_toArray, List.set_cons_zero, List.set_cons_succ]
                            obtain ⟨W9, hW9⟩ : ∃ V, v31.alloc (.cells #[.int .i64 3, .int .i64 ro, .int .i64 0, .int .i64 (-1), .int .i64 (m17 : Int), .int .i64 (m22 : Int), .bool false, .int .u64 (c0 : Int), .int .u64 0, .int .i64 sc, .int .u64 (0 : Int), .int .i64 0] 51) = V := ⟨_, rfl⟩
                            obtain ⟨g9, hg9⟩ : ∃ g, v31.heap.size = g := ⟨_, rfl⟩
                            have HS9 := Lib.hid (show PolW w W9 gp gz R P from by rw [← hW9]; exact HS31.out.alloc _)
                            have HU9 := Lib.hid (show Blk W9 gt 33 #[.int .u64 (0 : Int), .int .i64 0] from by rw [← hW9]; exact HU31.out.alloc _)
                            have hlen : P.rules.length ≤ 100 := by have := HLN.out; omega
                            obtain ⟨gn, cn, w10, hrun, ho, hg⟩ := app_some W9 Try.underlying26 Try.ruleI rfl (by decide) (by decide) HS9.out.own_r ⟨g9, 0, none⟩ 1 1 (ruleV (relR ro (m17 : Int) (m22 : Int) c0 sc (0) 0)) rfl (by rw [← hW9, ← hg9]; exact new_cells v31 _ (ruleV (relR ro (m17 : Int) (m22 : Int) c0 sc (0) 0))) (ruleV_ones _) (by decide) (by omega) HS9.out.bel.size 26
                            have HC10 := Lib.hid (HS9.out.blk_r hg)
                            have HU10 := Lib.hid (HU9.out.grown HS9.out.own_r hg (by decide))
                            have HX := Lib.hid (HS9.out.put_r hg (l' := P.rules ++ [relR ro (m17 : Int) (m22 : Int) c0 sc (0) 0]) (k := P.rules.length + 1) (by rw [flat_snoc]; exact ho) (by simp))
                            refine ordz_only (v := .slice (some ⟨g9, 0, none⟩) 1 1) (w' := W9) (i := 36) (fuel := 3) (by simp; rfl) (by kernel_rfl) (by rfl) ?_ (.inr ⟨HS9.out.cells, HU9.out⟩) ?_
                            · rw [← hW9, ← hg9]
                              go_simp
                              all_goals with_reducible rfl
                            simp only [Act.put, List.setIfInBounds_toArray, List.set_cons_zero, List.set_cons_succ]
                            refine ordz_only (v := .slice (some ⟨gn, 0, none⟩) (P.rules.length + 1) cn) (w' := w10) (i := 37) (fuel := 2) (by simp; rfl) (by kernel_rfl) (by rfl) ?_ (.inr ⟨HC10.out, HU10.out⟩) ?_
                            · refine (append_runZ (s := .tmp 240) (x := .tmp 275) (v := R.r) (xv := .slice (some ⟨g9, 0, none⟩) 1 1) rfl (by rfl) (by rfl) hrun).trans ?_
                              with_reducible rfl
                            simp only [Act.put, List.setIfInBounds_toArray, List.set_cons_zero, List.set_cons_succ]
                            refine ordz_take (v := ?_) (i := 38) (fuel := 1) (by simp; rfl) (by kernel_rfl) (by kernel_rfl) (by kernel_rfl) (by kernel_rfl) (Or.inl ⟨by rfl, fun w' hSw => ?_⟩) ⟨HC10.out, HU10.out⟩ ?_
                            rotate_left
                            · go_simp
                              all_goals with_reducible rfl
                            simp only [Act.put, List.setIfInBounds_toArray, List.set_cons_zero, List.set_cons_succ]
                            obtain ⟨⟨hg0', hc0', hc1', hc2', hc3', hc4'⟩, hfz'⟩ := HC10.out
                            have hfz0 := hfz' 4
                            refine ordz_skip (w' := w10.setCell ⟨gp, 4, none⟩ (.slice (some ⟨gn, 0, none⟩) (P.rules.length + 1) cn)) (i := 39) (fuel := 0) (by simp; rfl) (by kernel_rfl) (by rfl) (by rfl) ?_ (.inl rfl) ?_
                            · go_simp
                              all_goals with_reducible rfl
                            refine ordz_done (by kernel_rfl) ?_ _
                            clear hlen hw67 hw70 hw73 hw76 hrun ho hg hW9 hg9 hg0' hc0' hc1' hc2' hc3' hc4' hfz' hfz0 hro hmi hidx
                            go_wp2
                            go_roundw
                            case rel => exact ⟨i + 1, _, _, ⟨by omega, by have := HLN.out; simp; omega, by have := HLN.out; simp; omega⟩, by go_num, HX.out, HEG.out, HGG.out, HUp.out, HWG.out, by
                              rw [← hng] at *
                              exact HR.out.snoc (relR_ok (by omega) (by omega) (by omega) (by omega) (by omega) (by omega) hu1 hu2 hu3 hu4 (by omega) (by omega) (by omega))⟩
                            case measure => simp [intOf]; omega
                        · have hlt' : ¬ (i : Int) < 1 + (m : Int) := by omega
                          obtain ⟨Re, Rg, Rh, Ru, Rr⟩ := R
                          obtain ⟨A1, c1, rfl⟩ : ∃ A c, Re = .slice A P.ents.length c := own_form HP.out.own_e
                          obtain ⟨A2, c2, rfl⟩ : ∃ A c, Rg = .slice A P.grp.length c := own_form HP.out.own_g
                          obtain ⟨A3, c3, rfl⟩ : ∃ A c, Rh = .slice A P.who.length c := own_form HP.out.own_h
                          obtain ⟨A4, c4, rfl⟩ : ∃ A c, Ru = .slice A P.up.length c := own_form HP.out.own_u
                          obtain ⟨A5, c5, rfl⟩ : ∃ A c, Rr = .slice A P.rules.length c := own_form HP.out.own_r
                          obtain ⟨⟨hg0, hc0, hc1, hc2, hc3, hc4⟩, hfz⟩ := HP.out.cells
                          have hz := HP.out.2.2.2.1
                          have hz0 : wr.cell? ⟨gz, 0, none⟩ = some (.slice none 0 0) := (hz.cell 0).trans rfl
                          have hz1 : wr.cell? ⟨gz, 1, none⟩ = some (.slice none 0 0) := (hz.cell 1).trans rfl
                          have hz2 : wr.cell? ⟨gz, 2, none⟩ = some (.slice none 0 0) := (hz.cell 2).trans rfl
                          have hz3 : wr.cell? ⟨gz, 3, none⟩ = some (.slice none 0 0) := (hz.cell 3).trans rfl
                          have hz4 : wr.cell? ⟨gz, 4, none⟩ = some (.slice none 0 0) := (hz.cell 4).trans rfl
                          have hzl := hz.lt
                          have hf0 := hz.frozen 0
                          have hf1 := hz.frozen 1
                          have hf2 := hz.frozen 2
                          have hf3 := hz.frozen 3
                          have hf4 := hz.frozen 4
                          have HZ := Lib.hid hz
                          clear hz hfz
                          go_wp2
                          obtain ⟨W5, hW5⟩ : ∃ V, (((((wr.setCell ⟨gz, 0, none⟩ (.slice A1 P.ents.length c1)).setCell ⟨gz, 1, none⟩ (.slice A2 P.grp.length c2)).setCell ⟨gz, 2, none⟩ (.slice A3 P.who.length c3)).setCell ⟨gz, 3, none⟩ (.slice A4 P.up.length c4)).setCell ⟨gz, 4, none⟩ (.slice A5 P.rules.length c5)) = V := ⟨_, rfl⟩
                          have HQ5 := Lib.hid (show Blk W5 gz 28 #[.slice A1 P.ents.length c1, .slice A2 P.grp.length c2, .slice A3 P.who.length c3, .slice A4 P.up.length c4, .slice A5 P.rules.length c5] from by rw [← hW5]; have h := (((((HZ.out.set_ 0 (.slice A1 P.ents.length c1)).set_ 1 (.slice A2 P.grp.length c2)).set_ 2 (.slice A3 P.who.length c3)).set_ 3 (.slice A4 P.up.length c4)).set_ 4 (.slice A5 P.rules.length c5)); simpa [nil5] using h)
                          have HR5 := Lib.hid (show RowsW w.heap.size W5 ⟨.slice A1 P.ents.length c1, .slice A2 P.grp.length c2, .slice A3 P.who.length c3, .slice A4 P.up.length c4, .slice A5 P.rules.length c5⟩ P from by rw [← hW5]; exact (((((HP.out.rows.setZ HZ.out 0 (.slice A1 P.ents.length c1)).setZ (HZ.out.set_ 0 (.slice A1 P.ents.length c1)) 1 (.slice A2 P.grp.length c2)).setZ ((HZ.out.set_ 0 (.slice A1 P.ents.length c1)).set_ 1 (.slice A2 P.grp.length c2)) 2 (.slice A3 P.who.length c3)).setZ (((HZ.out.set_ 0 (.slice A1 P.ents.length c1)).set_ 1 (.slice A2 P.grp.length c2)).set_ 2 (.slice A3 P.who.length c3)) 3 (.slice A4 P.up.length c4)).setZ ((((HZ.out.set_ 0 (.slice A1 P.ents.length c1)).set_ 1 (.slice A2 P.grp.length c2)).set_ 2 (.slice A3 P.who.length c3)).set_ 3 (.slice A4 P.up.length c4)) 4 (.slice A5 P.rules.length c5)))
                          have HB5 := Lib.hid (show Below w.heap.size w W5 from by rw [← hW5]; exact (((((HP.out.bel.setCell (p := ⟨gz, 0, none⟩) HP.out.2.1 (.slice A1 P.ents.length c1)).setCell (p := ⟨gz, 1, none⟩) HP.out.2.1 (.slice A2 P.grp.length c2)).setCell (p := ⟨gz, 2, none⟩) HP.out.2.1 (.slice A3 P.who.length c3)).setCell (p := ⟨gz, 3, none⟩) HP.out.2.1 (.slice A4 P.up.length c4)).setCell (p := ⟨gz, 4, none⟩) HP.out.2.1 (.slice A5 P.rules.length c5)))
                          rw [hW5]
                          have hq0 : W5.cell? ⟨gz, 0, none⟩ = some (.slice A1 P.ents.length c1) := (HQ5.out.cell 0).trans rfl
                          have hq1 : W5.cell? ⟨gz, 1, none⟩ = some (.slice A2 P.grp.length c2) := (HQ5.out.cell 1).trans rfl
                          have hq2 : W5.cell? ⟨gz, 2, none⟩ = some (.slice A3 P.who.length c3) := (HQ5.out.cell 2).trans rfl
                          have hq3 : W5.cell? ⟨gz, 3, none⟩ = some (.slice A4 P.up.length c4) := (HQ5.out.cell 3).trans rfl
                          have hq4 : W5.cell? ⟨gz, 4, none⟩ = some (.slice A5 P.rules.length c5) := (HQ5.out.cell 4).trans rfl
                          have hPG : PolG P := ⟨k, hN2, hN4, HEG.out, HGG.out, HUp.out, HWG.out, HR.out, by have := HLN.out; omega, by have := HLN.out; omega⟩
                          exact bodyPost_ret (v := .agg #[.slice A1 P.ents.length c1, .slice A2 P.grp.length c2, .slice A3 P.who.length c3, .slice A4 P.up.length c4, .slice A5 P.rules.length c5]) (by simp [results, Try.results20, go_sem, hq0, hq1, hq2, hq3, hq4]) rfl ⟨_, P, rfl, HR5.out, hPG, belDr HB5.out _⟩
end Go.Proofs.Ytakofbkbbmpfeaa

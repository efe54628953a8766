/- pyxhand.at: a raw number. -/
/- A policy in memory of the call's own, under way. -/
import Derived.Test.YtakofbkbbmpfeaaPolA
import Derived.Test.YtakofbkbbmpfeaaRoleQ
import Derived.Deep.QuietTactic
import Derived.BigQuiet
namespace Go.Proofs.Ytakofbkbbmpfeaa
open Go.RowKit
@[go_sem] theorem drewN_alloc (w : World) (o : Obj) (n : Nat) : (w.drewN n).alloc o = (w.alloc o).drewN n := rfl
@[go_sem] theorem drewN_setCell (w : World) (p : Addr) (v : Value) (n : Nat) : (w.drewN n).setCell p v = (w.setCell p v).drewN n := rfl
@[go_sem] theorem drewN_drewN (w : World) (a b : Nat) : (w.drewN a).drewN b = w.drewN (a + b) := by
  unfold World.drewN
  simp [Nat.add_assoc]
theorem IL.dr {w : World} {B n c : Nat} {A : Option Addr} {L : List Int} (h : IL w B A n c L) (k : Nat) : IL (w.drewN k) B A n c L := h
set_option maxRecDepth 100000 in
set_option maxHeartbeats 1600000 in
theorem at_c (A : Option Addr) (n c B : Nat) (y : Int) (xs : List Int) (w : World) (h : IL w B A n c xs) (hn : n ≤ 9223372036854775807) (h0 : 0 ≤ y) (h1 : y ≤ 1000) :
    Calls Try.prog 42 #[.slice A n c, .int .i64 y] w fun e w' => ∃ (x : Int) (nq : Nat), e = .returned (.int .i64 x) ∧ w' = w.drewN nq := by
  obtain ⟨k, rfl⟩ : ∃ k : Nat, y = (k : Int) := ⟨y.toNat, by omega⟩
  have hk : k ≤ 1000 := by omega
  clear h0 h1
  by_cases h0 : n = 0
  · subst h0
    clear h
    go_enter Try.func42, Try.ntmps42
    go_wp2
    go_ret
    exact ⟨_, 0, rfl, rfl⟩
  · obtain ⟨r, hr, hr2⟩ : ∃ r : Nat, (k : Int).tmod (n : Int) = (r : Int) ∧ r < n := ⟨k % n, rfl, Nat.mod_lt _ (by omega)⟩
    obtain ⟨d, hd, hd2⟩ : ∃ d : Nat, (k : Int).tdiv (n : Int) = (d : Int) ∧ d ≤ 1000 := ⟨k / n, rfl, Nat.le_trans (Nat.div_le_self _ _) hk⟩
    obtain ⟨g, o, rfl, hg, hc, _⟩ := h.at_ hr2
    obtain ⟨x, hx⟩ : ∃ x, xs.getD r 0 = x := ⟨_, rfl⟩
    rw [hx] at hc
    have hn0 : ((n : Int) == 0) = false := by simp; omega
    have hd0 : ((1 : Int) + (d : Int) == 0) = false := by simp; omega
    clear h hx
    go_enter Try.func42, Try.ntmps42
    go_wp2_with fail
    go_quiet (fail)
    go_wp2
    go_ret
    exact ⟨_, _, rfl, rfl⟩
end Go.Proofs.Ytakofbkbbmpfeaa

namespace Go.Proofs.Ytakofbkbbmpfeaa
open Go.RowKit
structure Row5 where
  e : Value
  g : Value
  h : Value
  u : Value
  r : Value
def nil5 : Array Value := #[.slice none 0 0, .slice none 0 0, .slice none 0 0, .slice none 0 0, .slice none 0 0]
def Row5.nil_ : Row5 := ⟨.slice none 0 0, .slice none 0 0, .slice none 0 0, .slice none 0 0, .slice none 0 0⟩
def PolP.nil_ : PolP := ⟨[], [], [], [], []⟩
/-- The five rows, each of the call's own from block B on. -/
def RowsW (B : Nat) (w : World) (R : Row5) (P : PolP) : Prop :=
  w.ownsRow B 44 4 R.e P.ents.length (P.ents.flatMap entV) ∧
  w.ownsRow B 31 1 R.g P.grp.length (P.grp.map uV) ∧
  w.ownsRow B 46 3 R.h P.who.length (P.who.flatMap whoV) ∧
  w.ownsRow B 3 1 R.u P.up.length (P.up.map zV) ∧
  w.ownsRow B 51 12 R.r P.rules.length (P.rules.flatMap ruleV)
/-- The policy lies in block gp, the result's in gz. -/
def PolW (w0 w : World) (gp gz : Nat) (R : Row5) (P : PolP) : Prop :=
  Below w0.heap.size w0 w ∧ w0.heap.size ≤ gz ∧ gz < gp ∧ Blk w gz 28 nil5 ∧ Blk w gp 28 #[R.e, R.g, R.h, R.u, R.r] ∧ RowsW w0.heap.size w R P
theorem belDr {B : Nat} {w w' : World} (h : Below B w w') (k : Nat) : Below B w (w'.drewN k) := ⟨h.1, h.2, h.3, h.4, h.5⟩
theorem polSet {w : World} {base n size gp k : Nat} {E T : TypeId} {v u : Value} {xs : List Value} {cs : Array Value} (h : w.ownsRow base E size v n xs) (b : Blk w gp T cs) (hE : E ≠ T) : (w.setCell ⟨gp, k, none⟩ u).ownsRow base E size v n xs := by
  refine ⟨h.1, ?_⟩
  rcases h.2 with h | ⟨g, cap, cur, rfl, h1, hh, h2⟩
  · exact .inl h
  · have hne : g ≠ gp := by
      rintro rfl
      unfold Blk at b
      rw [hh] at b
      injection b with b
      injection b with _ b
      exact hE b
    exact .inr ⟨g, cap, cur, rfl, h1, (Below.heap_setCell w ⟨gp, k, none⟩ u g hne).trans hh, h2⟩
theorem grown_refl (w : World) (r : Option Nat) : w.grownBy w r := ⟨rfl, rfl, rfl, Nat.le_refl _, fun _ _ _ => rfl⟩
/-- A block of another type than the row that grows stays. -/
theorem Blk.grown {w w' : World} {base n size g : Nat} {E T : TypeId} {v : Value} {xs : List Value} {cs : Array Value} (b : Blk w g T cs) (h : w.ownsRow base E size v n xs) (hg : w.grownBy w' v.ownBlock) (hE : E ≠ T) : Blk w' g T cs := by
  have hne : some g ≠ v.ownBlock := by
    intro e
    rcases h.2 with ⟨rfl, _⟩ | ⟨k, cap, cur, rfl, _, hh, _⟩
    · simp [Value.ownBlock] at e
    · simp [Value.ownBlock] at e
      subst e
      unfold Blk at b
      rw [hh] at b
      injection b with b
      injection b with _ b
      exact hE b
  exact (hg.block g b.lt hne).trans b
section
variable {w0 w w' : World} {gp gz : Nat} {R : Row5} {P : PolP}
theorem RowsW.below {B : Nat} (h : RowsW B w R P) (hb : Below w.heap.size w w') : RowsW B w' R P := ⟨own_below (h.1) hb, own_below (h.2.1) hb, own_below (h.2.2.1) hb, own_below (h.2.2.2.1) hb, own_below (h.2.2.2.2) hb⟩
theorem RowsW.setZ {B g : Nat} {cs : Array Value} (h : RowsW B w R P) (b : Blk w g 28 cs) (k : Nat) (u : Value) : RowsW B (w.setCell ⟨g, k, none⟩ u) R P := ⟨polSet (h.1) b (by decide), polSet (h.2.1) b (by decide), polSet (h.2.2.1) b (by decide), polSet (h.2.2.2.1) b (by decide), polSet (h.2.2.2.2) b (by decide)⟩
theorem PolW.below (h : PolW w0 w gp gz R P) (hb : Below w.heap.size w w') : PolW w0 w' gp gz R P :=
  ⟨h.1.trans (hb.mono h.1.size), h.2.1, h.2.2.1, h.2.2.2.1.below hb h.2.2.2.1.lt, h.2.2.2.2.1.below hb h.2.2.2.2.1.lt, h.2.2.2.2.2.below hb⟩
theorem PolW.drewN (h : PolW w0 w gp gz R P) (k : Nat) : PolW w0 (w.drewN k) gp gz R P := h.below (belDr (Below.refl _ _) k)
theorem PolW.alloc (h : PolW w0 w gp gz R P) (o : Obj) : PolW w0 (w.alloc o) gp gz R P := h.below (bel_alloc (Below.refl _ _) o)
theorem PolW.blk (h : PolW w0 w gp gz R P) : Blk w gp 28 #[R.e, R.g, R.h, R.u, R.r] := h.2.2.2.2.1
theorem PolW.rows (h : PolW w0 w gp gz R P) : RowsW w0.heap.size w R P := h.2.2.2.2.2
theorem PolW.bel (h : PolW w0 w gp gz R P) : Below w0.heap.size w0 w := h.1
theorem PolW.start {gz : Nat} (hb : Below w0.heap.size w0 w) (hz : Blk w gz 28 nil5) (hg : w0.heap.size ≤ gz) : PolW w0 (w.alloc (.cells nil5 28)) w.heap.size gz Row5.nil_ PolP.nil_ :=
  ⟨bel_alloc hb _, hg, hz.lt, hz.alloc _, Blk.new _ _ _, World.ownsRow_nil _ _ _ _, World.ownsRow_nil _ _ _ _, World.ownsRow_nil _ _ _ _, World.ownsRow_nil _ _ _ _, World.ownsRow_nil _ _ _ _⟩
/-- What the walk reads of it. -/
def PolC (w : World) (gp : Nat) (R : Row5) : Prop :=
  (gp < w.heap.size ∧ w.cell? ⟨gp, 0, none⟩ = some R.e ∧ w.cell? ⟨gp, 1, none⟩ = some R.g ∧ w.cell? ⟨gp, 2, none⟩ = some R.h ∧ w.cell? ⟨gp, 3, none⟩ = some R.u ∧ w.cell? ⟨gp, 4, none⟩ = some R.r) ∧ ∀ k, w.frozen? ⟨gp, k, none⟩ = false
theorem PolC.of (b : Blk w gp 28 #[R.e, R.g, R.h, R.u, R.r]) : PolC w gp R := ⟨⟨b.lt, (b.cell 0).trans rfl, (b.cell 1).trans rfl, (b.cell 2).trans rfl, (b.cell 3).trans rfl, (b.cell 4).trans rfl⟩, fun k => b.frozen k⟩
theorem PolW.cells (h : PolW w0 w gp gz R P) : PolC w gp R := PolC.of h.blk
theorem PolW.own_e (h : PolW w0 w gp gz R P) : w.ownsRow w0.heap.size 44 4 R.e P.ents.length (P.ents.flatMap entV) := h.rows.1
theorem PolW.own_g (h : PolW w0 w gp gz R P) : w.ownsRow w0.heap.size 31 1 R.g P.grp.length (P.grp.map uV) := h.rows.2.1
theorem PolW.own_h (h : PolW w0 w gp gz R P) : w.ownsRow w0.heap.size 46 3 R.h P.who.length (P.who.flatMap whoV) := h.rows.2.2.1
theorem PolW.own_u (h : PolW w0 w gp gz R P) : w.ownsRow w0.heap.size 3 1 R.u P.up.length (P.up.map zV) := h.rows.2.2.2.1
theorem PolW.own_r (h : PolW w0 w gp gz R P) : w.ownsRow w0.heap.size 51 12 R.r P.rules.length (P.rules.flatMap ruleV) := h.rows.2.2.2.2
/-- Field ents: a row that grew, or a new one, is stored. -/
theorem PolW.blk_e (h : PolW w0 w gp gz R P) (hg : w.grownBy w' R.e.ownBlock) : PolC w' gp R := PolC.of (h.blk.grown h.own_e hg (by decide))
theorem PolW.put_e (h : PolW w0 w gp gz R P) (hg : w.grownBy w' R.e.ownBlock) {v' : Value} {l' : List EntP} {k : Nat} (ho : w'.ownsRow w0.heap.size 44 4 v' k (l'.flatMap entV)) (hk : k = l'.length) : PolW w0 (w'.setCell ⟨gp, 0, none⟩ v') gp gz { R with e := v' } { P with ents := l' } := by
  subst hk
  have hB := h.bel.size
  have b := h.blk.grown h.own_e hg (by decide)
  have hz := h.2.2.2.1.grown h.own_e hg (by decide)
  have hp : w0.heap.size ≤ gp := by have := h.2.1; have := h.2.2.1; omega
  refine ⟨(h.bel.grown hg hB (own_base h.own_e)).setCell (p := ⟨gp, 0, none⟩) hp _, h.2.1, h.2.2.1, hz.far (p := ⟨gp, 0, none⟩) (by have := h.2.2.1; simp; omega) _, ?_, ?_⟩
  · have := b.set_ 0 v'
    simpa using this
  · exact ⟨polSet ho b (by decide), polSet (own_keep h.own_g hg (fun g h1 h2 => own_apart h.own_e h.own_g (by decide) g h2 h1)) b (by decide), polSet (own_keep h.own_h hg (fun g h1 h2 => own_apart h.own_e h.own_h (by decide) g h2 h1)) b (by decide), polSet (own_keep h.own_u hg (fun g h1 h2 => own_apart h.own_e h.own_u (by decide) g h2 h1)) b (by decide), polSet (own_keep h.own_r hg (fun g h1 h2 => own_apart h.own_e h.own_r (by decide) g h2 h1)) b (by decide)⟩
/-- Field grp: a row that grew, or a new one, is stored. -/
theorem PolW.blk_g (h : PolW w0 w gp gz R P) (hg : w.grownBy w' R.g.ownBlock) : PolC w' gp R := PolC.of (h.blk.grown h.own_g hg (by decide))
theorem PolW.put_g (h : PolW w0 w gp gz R P) (hg : w.grownBy w' R.g.ownBlock) {v' : Value} {l' : List Nat} {k : Nat} (ho : w'.ownsRow w0.heap.size 31 1 v' k (l'.map uV)) (hk : k = l'.length) : PolW w0 (w'.setCell ⟨gp, 1, none⟩ v') gp gz { R with g := v' } { P with grp := l' } := by
  subst hk
  have hB := h.bel.size
  have b := h.blk.grown h.own_g hg (by decide)
  have hz := h.2.2.2.1.grown h.own_g hg (by decide)
  have hp : w0.heap.size ≤ gp := by have := h.2.1; have := h.2.2.1; omega
  refine ⟨(h.bel.grown hg hB (own_base h.own_g)).setCell (p := ⟨gp, 1, none⟩) hp _, h.2.1, h.2.2.1, hz.far (p := ⟨gp, 1, none⟩) (by have := h.2.2.1; simp; omega) _, ?_, ?_⟩
  · have := b.set_ 1 v'
    simpa using this
  · exact ⟨polSet (own_keep h.own_e hg (fun g h1 h2 => own_apart h.own_g h.own_e (by decide) g h2 h1)) b (by decide), polSet ho b (by decide), polSet (own_keep h.own_h hg (fun g h1 h2 => own_apart h.own_g h.own_h (by decide) g h2 h1)) b (by decide), polSet (own_keep h.own_u hg (fun g h1 h2 => own_apart h.own_g h.own_u (by decide) g h2 h1)) b (by decide), polSet (own_keep h.own_r hg (fun g h1 h2 => own_apart h.own_g h.own_r (by decide) g h2 h1)) b (by decide)⟩
/-- Field who: a row that grew, or a new one, is stored. -/
theorem PolW.blk_h (h : PolW w0 w gp gz R P) (hg : w.grownBy w' R.h.ownBlock) : PolC w' gp R := PolC.of (h.blk.grown h.own_h hg (by decide))
theorem PolW.put_h (h : PolW w0 w gp gz R P) (hg : w.grownBy w' R.h.ownBlock) {v' : Value} {l' : List WhoP} {k : Nat} (ho : w'.ownsRow w0.heap.size 46 3 v' k (l'.flatMap whoV)) (hk : k = l'.length) : PolW w0 (w'.setCell ⟨gp, 2, none⟩ v') gp gz { R with h := v' } { P with who := l' } := by
  subst hk
  have hB := h.bel.size
  have b := h.blk.grown h.own_h hg (by decide)
  have hz := h.2.2.2.1.grown h.own_h hg (by decide)
  have hp : w0.heap.size ≤ gp := by have := h.2.1; have := h.2.2.1; omega
  refine ⟨(h.bel.grown hg hB (own_base h.own_h)).setCell (p := ⟨gp, 2, none⟩) hp _, h.2.1, h.2.2.1, hz.far (p := ⟨gp, 2, none⟩) (by have := h.2.2.1; simp; omega) _, ?_, ?_⟩
  · have := b.set_ 2 v'
    simpa using this
  · exact ⟨polSet (own_keep h.own_e hg (fun g h1 h2 => own_apart h.own_h h.own_e (by decide) g h2 h1)) b (by decide), polSet (own_keep h.own_g hg (fun g h1 h2 => own_apart h.own_h h.own_g (by decide) g h2 h1)) b (by decide), polSet ho b (by decide), polSet (own_keep h.own_u hg (fun g h1 h2 => own_apart h.own_h h.own_u (by decide) g h2 h1)) b (by decide), polSet (own_keep h.own_r hg (fun g h1 h2 => own_apart h.own_h h.own_r (by decide) g h2 h1)) b (by decide)⟩
/-- Field up: a row that grew, or a new one, is stored. -/
theorem PolW.blk_u (h : PolW w0 w gp gz R P) (hg : w.grownBy w' R.u.ownBlock) : PolC w' gp R := PolC.of (h.blk.grown h.own_u hg (by decide))
theorem PolW.put_u (h : PolW w0 w gp gz R P) (hg : w.grownBy w' R.u.ownBlock) {v' : Value} {l' : List Int} {k : Nat} (ho : w'.ownsRow w0.heap.size 3 1 v' k (l'.map zV)) (hk : k = l'.length) : PolW w0 (w'.setCell ⟨gp, 3, none⟩ v') gp gz { R with u := v' } { P with up := l' } := by
  subst hk
  have hB := h.bel.size
  have b := h.blk.grown h.own_u hg (by decide)
  have hz := h.2.2.2.1.grown h.own_u hg (by decide)
  have hp : w0.heap.size ≤ gp := by have := h.2.1; have := h.2.2.1; omega
  refine ⟨(h.bel.grown hg hB (own_base h.own_u)).setCell (p := ⟨gp, 3, none⟩) hp _, h.2.1, h.2.2.1, hz.far (p := ⟨gp, 3, none⟩) (by have := h.2.2.1; simp; omega) _, ?_, ?_⟩
  · have := b.set_ 3 v'
    simpa using this
  · exact ⟨polSet (own_keep h.own_e hg (fun g h1 h2 => own_apart h.own_u h.own_e (by decide) g h2 h1)) b (by decide), polSet (own_keep h.own_g hg (fun g h1 h2 => own_apart h.own_u h.own_g (by decide) g h2 h1)) b (by decide), polSet (own_keep h.own_h hg (fun g h1 h2 => own_apart h.own_u h.own_h (by decide) g h2 h1)) b (by decide), polSet ho b (by decide), polSet (own_keep h.own_r hg (fun g h1 h2 => own_apart h.own_u h.own_r (by decide) g h2 h1)) b (by decide)⟩
/-- Field rules: a row that grew, or a new one, is stored. -/
theorem PolW.blk_r (h : PolW w0 w gp gz R P) (hg : w.grownBy w' R.r.ownBlock) : PolC w' gp R := PolC.of (h.blk.grown h.own_r hg (by decide))
theorem PolW.put_r (h : PolW w0 w gp gz R P) (hg : w.grownBy w' R.r.ownBlock) {v' : Value} {l' : List RuleP} {k : Nat} (ho : w'.ownsRow w0.heap.size 51 12 v' k (l'.flatMap ruleV)) (hk : k = l'.length) : PolW w0 (w'.setCell ⟨gp, 4, none⟩ v') gp gz { R with r := v' } { P with rules := l' } := by
  subst hk
  have hB := h.bel.size
  have b := h.blk.grown h.own_r hg (by decide)
  have hz := h.2.2.2.1.grown h.own_r hg (by decide)
  have hp : w0.heap.size ≤ gp := by have := h.2.1; have := h.2.2.1; omega
  refine ⟨(h.bel.grown hg hB (own_base h.own_r)).setCell (p := ⟨gp, 4, none⟩) hp _, h.2.1, h.2.2.1, hz.far (p := ⟨gp, 4, none⟩) (by have := h.2.2.1; simp; omega) _, ?_, ?_⟩
  · have := b.set_ 4 v'
    simpa using this
  · exact ⟨polSet (own_keep h.own_e hg (fun g h1 h2 => own_apart h.own_r h.own_e (by decide) g h2 h1)) b (by decide), polSet (own_keep h.own_g hg (fun g h1 h2 => own_apart h.own_r h.own_g (by decide) g h2 h1)) b (by decide), polSet (own_keep h.own_h hg (fun g h1 h2 => own_apart h.own_r h.own_h (by decide) g h2 h1)) b (by decide), polSet (own_keep h.own_u hg (fun g h1 h2 => own_apart h.own_r h.own_u (by decide) g h2 h1)) b (by decide), polSet ho b (by decide)⟩
end
end Go.Proofs.Ytakofbkbbmpfeaa

/- Policies: right, decided; what pyxhand.Policy returns is right; rows of the call's own read as a policy. -/
/- RuleDenies, plainly: rules added, rules turned. -/
/- pyxlaw10.small, known. -/
import Derived.Test.YtakofbkbbmpfeaaRulF
import Derived.Test.YtakofbkbbmpfeaaPolD
namespace Go.Proofs.Ytakofbkbbmpfeaa
open Go.RowKit
def allIB {α : Type} (p : Nat → α → Bool) : Nat → List α → Bool
  | _, [] => true
  | i, a :: l => p i a && allIB p (i + 1) l
theorem allIB_iff {α : Type} (p : Nat → α → Bool) : ∀ (l : List α) (k : Nat), allIB p k l = true ↔ ∀ i a, l[i]? = some a → p (k + i) a = true
  | [], k => by simp [allIB]
  | a :: l, k => by
    rw [allIB, Bool.and_eq_true, allIB_iff p l (k + 1)]
    constructor
    · rintro ⟨h1, h2⟩ i b e
      cases i with
      | zero => simp at e; subst e; exact h1
      | succ i =>
        rw [List.getElem?_cons_succ] at e
        have := h2 i b e
        rw [show k + 1 + i = k + (i + 1) by omega] at this
        exact this
    · intro h
      refine ⟨h 0 a rfl, fun i b e => ?_⟩
      have := h (i + 1) b (by rw [List.getElem?_cons_succ]; exact e)
      rw [show k + (i + 1) = k + 1 + i by omega] at this
      exact this
instance {α : Type} (p : Nat → α → Prop) [∀ i a, Decidable (p i a)] (l : List α) : Decidable (AllI_ p l) :=
  decidable_of_iff (allIB (fun i a => decide (p i a)) 0 l = true) (by
    rw [allIB_iff]
    unfold AllI_
    simp)
instance (i : Nat) (e : EntP) : Decidable (EntOk i e) := by unfold EntOk; infer_instance
instance (ne nr ng : Nat) (r : RuleP) : Decidable (RulP ne nr ng r) := by unfold RulP; infer_instance
instance (P : PolP) : Decidable (RightPol P) := by unfold RightPol; infer_instance
theorem right_dec (P : PolP) (β : Bool) (h : decide (RightPol P) = β) : β = true ↔ RightPol P := by
  subst h
  exact decide_eq_true_iff
theorem ruleOk_right {ne nr ng : Nat} {r : RuleP} (h : RuleOk ne nr ng r) : RulP ne nr ng r := by
  obtain ⟨tag, role, verb, ent, grp, line, neg, c0, c1, sc, toS, toL⟩ := r
  unfold RuleOk at h
  unfold RulP
  dsimp only at h ⊢
  obtain ⟨h0, h1, ⟨a1, a2, a3, a4, a5, a6, a7, a8, a9, b1, b2, b3, b4, b5⟩ | ⟨a1, a2, a3, a4, a5, a6, a7, a8, a9, b1, b2, b3, b4, b5, b6, b7⟩⟩ := h
  · exact ⟨⟨h0, h1⟩, .inl ⟨by omega, ⟨a3, a4⟩, ⟨a5, a6⟩, a7, a8, ⟨a9, b1, b2, b3⟩, b4, b5⟩⟩
  · subst a8
    subst b2
    have hr : RightD false (c0 : Int) ((0 : Nat) : Int) sc := by
      refine ⟨?_, b3, by omega, by simp⟩
      unfold v2
      simp
      omega
    refine ⟨⟨h0, h1⟩, .inr ⟨a1, a2, a3, ⟨a4, a5⟩, ⟨a6, a7⟩, decide_eq_true hr, ?_, b4, rightB_iff.2 ⟨b5, b6, b7⟩⟩⟩
    rw [signV, if_pos hr]
    unfold zOf v2
    simp
    omega
theorem PolG.right {P : PolP} (h : PolG P) : RightPol P := by
  obtain ⟨N, h2, h4, ⟨hn, he⟩, ⟨hg, hg1, hg3⟩, ⟨hu, hu2⟩, ⟨⟨hw, _⟩, hw2, hw4⟩, hr, hr7, hr13⟩ := h
  refine ⟨⟨⟨by omega, by omega⟩, by omega, ⟨by omega, by omega⟩, rightL_iff.2 ⟨by omega, fun i x e => hu2 i x e⟩, by omega⟩, he, ?_, ?_, ?_⟩
  · rw [hn]
    exact hg
  · intro i x e
    obtain ⟨a, b, c, d⟩ := hw i x e
    exact ⟨rightB_iff.2 ⟨a, b, c⟩, d⟩
  · intro i r e
    rw [hn, hu]
    exact ruleOk_right (hr i r e)
theorem mem_at {α : Type} {l : List α} {a : α} (h : a ∈ l) : ∃ i : Nat, l[i]? = some a := List.getElem?_of_mem h
theorem PolG.wd {P : PolP} (h : PolG P) : PolWd P := by
  obtain ⟨N, h2, h4, ⟨hn, he⟩, ⟨hg, hg1, hg3⟩, ⟨hu, hu2⟩, ⟨⟨hw, _⟩, hw2, hw4⟩, hr, hr7, hr13⟩ := h
  refine ⟨fun g m => ?_, fun x m => ?_, fun r m => ?_, by omega, by omega, by omega, by omega, by omega⟩
  · obtain ⟨i, e⟩ := mem_at m
    have h := (hg i g e).2
    have : 2 ^ N ≤ 2 ^ 4 := Nat.pow_le_pow_right (by decide) h4
    have e4 : (2 : Nat) ^ 4 = 16 := rfl
    omega
  · obtain ⟨i, e⟩ := mem_at m
    obtain ⟨a, b, c, d⟩ := hw i x e
    omega
  · obtain ⟨i, e⟩ := mem_at m
    obtain ⟨_, _, h⟩ := hr i r e
    unfold RuleW
    rcases h with ⟨_, _, _, _, _, _, _, _, _, b1, b2, _, b4, _⟩ | ⟨_, _, _, _, _, _, _, _, _, b1, b2, _, _, b4, _, _⟩ <;> omega
/-- A row of the call's own reads as its cells. -/
theorem own_rd {w : World} {B n size : Nat} {E : TypeId} {v : Value} {xs : List Value} (h : w.ownsRow B E size v n xs) : ∃ A c, v = .slice A n c ∧ n ≤ c ∧ RdR w w.heap.size A n xs := by
  rcases h.2 with ⟨rfl, rfl⟩ | ⟨g, c, cur, rfl, hb, hh, hc, hle, _⟩
  · exact ⟨none, 0, rfl, Nat.le_refl _, fun hn => absurd hn (by decide)⟩
  · refine ⟨_, c, rfl, hc, fun _ => ⟨g, 0, rfl, ?_, fun j u hu => ?_⟩⟩
    · exact own_block h g (by simp [Value.ownBlock])
    · have hx := h.cells (g := g) rfl j u hu
      by_cases hz : j = 0
      · subst hz; simpa [Addr.add] using hx
      · simpa [Addr.add, hz] using hx
theorem rd_il {w : World} {B n c : Nat} {A : Option Addr} {L : List Int} (h : RdR w B A n (L.map zV)) (hl : L.length = n) (hc : n ≤ c) : IL w B A n c L := by
  refine ⟨hl, hc, fun hn => ?_⟩
  obtain ⟨g, o, e, hg, hx⟩ := h hn
  refine ⟨g, o, e, hg, fun j hj => hx j _ ?_⟩
  rw [List.getElem?_map, getD_some (by omega)]
  rfl
/-- Five rows of the call's own read as a policy. -/
theorem RowsW.rd {B : Nat} {w : World} {R : Row5} {P : PolP} (h : RowsW B w R P) : ∃ s : Slp, R.e = .slice s.Ae P.ents.length s.ce ∧ R.g = .slice s.Ag P.grp.length s.cg ∧ R.h = .slice s.Ah P.who.length s.ch ∧ R.u = .slice s.Au P.up.length s.cu ∧ R.r = .slice s.Ar P.rules.length s.cr ∧ PolRd w w.heap.size s P := by
  obtain ⟨A1, c1, e1, _, r1⟩ := own_rd h.1
  obtain ⟨A2, c2, e2, _, r2⟩ := own_rd h.2.1
  obtain ⟨A3, c3, e3, _, r3⟩ := own_rd h.2.2.1
  obtain ⟨A4, c4, e4, l4, r4⟩ := own_rd h.2.2.2.1
  obtain ⟨A5, c5, e5, _, r5⟩ := own_rd h.2.2.2.2
  exact ⟨⟨A1, c1, A2, c2, A3, c3, A4, c4, A5, c5⟩, e1, e2, e3, e4, e5, r1, r2, r3, rd_il r4 rfl l4, r5⟩
end Go.Proofs.Ytakofbkbbmpfeaa

namespace Go.Proofs.Ytakofbkbbmpfeaa
open Go.RowKit
theorem tagM_nonneg (c : RuleP → Bool) : ∀ (l : List RuleP) (a : Int), a ≤ l.foldl (fun a r => if c r then max a r.tag else a) a
  | [], a => Int.le_refl a
  | r :: l, a => by
    rw [List.foldl_cons]
    refine Int.le_trans ?_ (tagM_nonneg c l _)
    split
    · omega
    · omega
theorem tagM_ge (c : RuleP → Bool) (l : List RuleP) : 0 ≤ tagM c l := tagM_nonneg c l 0
theorem tagM_from (c : RuleP → Bool) : ∀ (l : List RuleP) (a b : Int), l.foldl (fun a r => if c r then max a r.tag else a) (max a b) = max a (l.foldl (fun a r => if c r then max a r.tag else a) b)
  | [], a, b => rfl
  | r :: l, a, b => by
    rw [List.foldl_cons, List.foldl_cons]
    by_cases h : c r = true
    · rw [if_pos h, if_pos h, show max (max a b) r.tag = max a (max b r.tag) by omega]
      exact tagM_from c l a _
    · rw [if_neg h, if_neg h]
      exact tagM_from c l a b
theorem tagM_app (c : RuleP → Bool) (l m : List RuleP) : tagM c (l ++ m) = max (tagM c l) (tagM c m) := by
  unfold tagM
  rw [List.foldl_append]
  have h := tagM_from c m (l.foldl (fun a r => if c r then max a r.tag else a) 0) 0
  rw [← h]
  congr 1
  have := tagM_ge c l
  unfold tagM at this
  omega
/-- The order of rules does not count. -/
theorem tagM_turn (c : RuleP → Bool) (l : List RuleP) (k : Nat) : tagM c (l.drop k ++ l.take k) = tagM c l := by
  rw [tagM_app, ← congrArg (tagM c) (List.take_append_drop k l), tagM_app]
  omega
theorem tagM_one (c : RuleP → Bool) (l : List RuleP) (r : RuleP) : tagM c (l ++ [r]) = if c r then max (tagM c l) r.tag else tagM c l := tagM_snoc c l r
/-- What one may, with other rules. -/
def withR (P : PolP) (l : List RuleP) : PolP := { P with rules := l }
theorem mayL_with (P : PolP) (l : List RuleP) (ro : Nat) (v e : Int) : mayL (withR P l) ro v e = if tagM (spk P ro v e) l = 0 then decide (tagM (spk P ro v (-1)) l = 1) else decide (tagM (spk P ro v e) l = 1) := rfl
theorem mayL_turn (P : PolP) (ro : Nat) (v e : Int) (k : Nat) : mayL (withR P (P.rules.drop k ++ P.rules.take k)) ro v e = mayL P ro v e := by
  rw [mayL_with, tagM_turn, tagM_turn]
  rfl
/-- A rule of Deny that is added never lets one do more. -/
theorem mayL_deny (P : PolP) (ro : Nat) (v e : Int) (r : RuleP) (ht : r.tag = 2) (h : mayL (withR P (P.rules ++ [r])) ro v e = true) : mayL P ro v e = true := by
  rw [mayL_with, tagM_one, tagM_one, ht] at h
  unfold mayL
  have g1 := tagM_ge (spk P ro v e) P.rules
  have g2 := tagM_ge (spk P ro v (-1)) P.rules
  cases h1 : spk P ro v e r <;> cases h2 : spk P ro v (-1) r <;> rw [h1, h2] at h <;> simp only [if_true, Bool.false_eq_true, if_false] at h
  · exact h
  · by_cases h0 : tagM (spk P ro v e) P.rules = 0
    · rw [if_pos h0] at h
      have := of_decide_eq_true h
      omega
    · rw [if_neg h0] at h ⊢
      exact h
  · rw [if_neg (by omega)] at h
    have := of_decide_eq_true h
    omega
  · rw [if_neg (by omega)] at h
    have := of_decide_eq_true h
    omega
/-- One of Allow never lets one do less. -/
theorem mayL_allow (P : PolP) (ro : Nat) (v e : Int) (r : RuleP) (ht : r.tag = 1) (h : mayL P ro v e = true) : mayL (withR P (P.rules ++ [r])) ro v e = true := by
  rw [mayL_with, tagM_one, tagM_one, ht]
  unfold mayL at h
  have g1 := tagM_ge (spk P ro v e) P.rules
  have g2 := tagM_ge (spk P ro v (-1)) P.rules
  by_cases h0 : tagM (spk P ro v e) P.rules = 0
  · rw [if_pos h0] at h
    have h' := of_decide_eq_true h
    cases h1 : spk P ro v e r <;> cases h2 : spk P ro v (-1) r <;> simp only [if_true, Bool.false_eq_true, if_false] <;> rw [h0]
    · rw [if_pos rfl]; exact h
    · rw [if_pos rfl, h']; rfl
    · rfl
    · rfl
  · rw [if_neg h0] at h
    have h' := of_decide_eq_true h
    cases h1 : spk P ro v e r <;> cases h2 : spk P ro v (-1) r <;> simp only [if_true, Bool.false_eq_true, if_false] <;> rw [h'] <;> rfl
/-- One that speaks of another entity changes nothing. -/
theorem mayL_other (P : PolP) (ro : Nat) (v e : Int) (r : RuleP) (h1 : r.ent ≠ e) (h2 : r.ent ≠ -1) : mayL (withR P (P.rules ++ [r])) ro v e = mayL P ro v e := by
  have s1 : spk P ro v e r = false := by unfold spk; rw [decide_eq_false h1, Bool.and_false, Bool.and_false, Bool.and_false]
  have s2 : spk P ro v (-1) r = false := by unfold spk; rw [decide_eq_false h2, Bool.and_false, Bool.and_false, Bool.and_false]
  rw [mayL_with, tagM_one, tagM_one, s1, s2]
  rfl
/-- Other rules: right again. -/
theorem right_with {P : PolP} {l : List RuleP} (h : RightPol P) (hl : l.length ≤ 32) (hr : AllI_ (fun _ r => RulP P.ents.length P.up.length P.grp.length r) l) : RightPol (withR P l) :=
  ⟨⟨h.1.1, h.1.2.1, h.1.2.2.1, h.1.2.2.2.1, hl⟩, h.2.1, h.2.2.1, h.2.2.2.1, hr⟩
theorem wd_with {P : PolP} {l : List RuleP} (h : PolWd P) (hl : l.length ≤ 1000000) (hr : ∀ r ∈ l, RuleW r) : PolWd (withR P l) := ⟨h.1, h.2.1, hr, h.2.2.2.1, h.2.2.2.2.1, h.2.2.2.2.2.1, h.2.2.2.2.2.2.1, hl⟩
theorem rd_with {w : World} {B : Nat} {s : Slp} {P : PolP} {l : List RuleP} (h : PolRd w B s P) {A : Option Addr} (c : Nat) (hr : RdR w B A l.length (l.flatMap ruleV)) : PolRd w B { s with Ar := A, cr := c } (withR P l) := ⟨h.1, h.2.1, h.2.2.1, h.2.2.2.1, hr⟩
theorem all_app {α : Type} {p : Nat → α → Prop} {l m : List α} (hp : ∀ i j a, p i a → p j a) (h1 : AllI_ p l) (h2 : AllI_ p m) : AllI_ p (l ++ m) := fun i a e => by
  rcases Nat.lt_or_ge i l.length with g | g
  · rw [List.getElem?_append_left g] at e
    exact h1 i a e
  · rw [List.getElem?_append_right g] at e
    exact hp _ _ a (h2 _ a e)
theorem all_sub {α : Type} {p : Nat → α → Prop} {l m : List α} (hp : ∀ i j a, p i a → p j a) (h1 : AllI_ p l) (hs : ∀ a ∈ m, a ∈ l) : AllI_ p m := fun i a e => by
  obtain ⟨j, hj⟩ := mem_at (hs a (List.mem_of_getElem? e))
  exact hp _ _ a (h1 j a hj)
end Go.Proofs.Ytakofbkbbmpfeaa

namespace Go.Proofs.Ytakofbkbbmpfeaa
open Go.RowKit
def smallP (L : List RuleP) : PolP := ⟨[⟨1, 0, -1, 10000⟩, ⟨2, 0, 0, 5000⟩], [3], [⟨3, 2, 1⟩, ⟨1, 1, 0⟩], [-1], L⟩
theorem blk_rd {w : World} {g B n : Nat} {T : TypeId} {cs : Array Value} {vs : List Value} (h : Blk w g T cs) (hg : g < B) (hv : cs.toList = vs) : RdR w B (some ⟨g, 0, none⟩) n vs := fun _ => ⟨g, 0, rfl, hg, fun j u hu => by
  rw [Nat.zero_add, h.cell j, ← hu, ← hv]
  simp⟩
theorem nil_rd (w : World) (B : Nat) (A : Option Addr) (vs : List Value) : RdR w B A 0 vs := fun h => absurd h (by decide)
/-- Where a small policy's slices lie. -/
def smS (g : Nat) (Ar : Option Addr) (cr : Nat) : Slp := ⟨some ⟨g + 1, 0, none⟩, 2, some ⟨g + 2, 0, none⟩, 1, some ⟨g + 3, 0, none⟩, 2, some ⟨g + 4, 0, none⟩, 1, Ar, cr⟩
def entC : Array Value := #[.int .i64 1, .int .i64 0, .int .i64 (-1), .int .i64 10000, .int .i64 2, .int .i64 0, .int .i64 0, .int .i64 5000]
def whoC : Array Value := #[.int .u64 3, .int .i64 2, .int .u64 1, .int .u64 1, .int .i64 1, .int .u64 0]
def SmB (w : World) (g : Nat) : Prop := Blk w (g + 1) 44 entC ∧ Blk w (g + 2) 31 #[.int .u64 3] ∧ Blk w (g + 3) 46 whoC ∧ Blk w (g + 4) 3 #[.int .i64 (-1)]
theorem SmB.below {w w' : World} {g : Nat} (h : SmB w g) (hb : Below w.heap.size w w') : SmB w' g := ⟨h.1.below hb h.1.lt, h.2.1.below hb h.2.1.lt, h.2.2.1.below hb h.2.2.1.lt, h.2.2.2.below hb h.2.2.2.lt⟩
theorem SmB.far {w : World} {g : Nat} (h : SmB w g) {p : Addr} (hp : g + 4 < p.block) (v : Value) : SmB (w.setCell p v) g := ⟨h.1.far (by omega) v, h.2.1.far (by omega) v, h.2.2.1.far (by omega) v, h.2.2.2.far (by omega) v⟩
theorem SmB.rd {w : World} {g B : Nat} (h : SmB w g) (hg : g + 4 < B) {Ar : Option Addr} {cr : Nat} {L : List RuleP} (hr : RdR w B Ar L.length (L.flatMap ruleV)) : PolRd w B (smS g Ar cr) (smallP L) :=
  ⟨blk_rd h.1 (by omega) rfl, blk_rd h.2.1 (by omega) rfl, blk_rd h.2.2.1 (by omega) rfl, rd_il (blk_rd h.2.2.2 hg rfl) rfl (Nat.le_refl _), hr⟩
theorem pol5 {w : World} {g : Nat} {a b c d e : Value} (h : Blk w g 28 #[a, b, c, d, e]) : g < w.heap.size ∧ w.cell? ⟨g, 0, none⟩ = some a ∧ w.cell? ⟨g, 1, none⟩ = some b ∧ w.cell? ⟨g, 2, none⟩ = some c ∧ w.cell? ⟨g, 3, none⟩ = some d ∧ w.cell? ⟨g, 4, none⟩ = some e :=
  ⟨h.lt, (h.cell 0).trans rfl, (h.cell 1).trans rfl, (h.cell 2).trans rfl, (h.cell 3).trans rfl, (h.cell 4).trans rfl⟩
def SmRet (w : World) (e : Ending) (w' : World) : Prop := ∃ g, w.heap.size ≤ g ∧ e = .returned (.agg #[.slice (some ⟨g + 1, 0, none⟩) 2 2, .slice (some ⟨g + 2, 0, none⟩) 1 1, .slice (some ⟨g + 3, 0, none⟩) 2 2, .slice (some ⟨g + 4, 0, none⟩) 1 1, .slice none 0 0]) ∧ SmB w' g ∧ Below w.heap.size w w'
theorem blk_at {V : World} {n : Nat} {cs : Array Value} {t : TypeId} (h : V.heap.size = n) : Blk (V.alloc (.cells cs t)) n t cs := h ▸ Blk.new V t cs
set_option maxRecDepth 100000 in
set_option maxHeartbeats 1600000 in
theorem small_c (w : World) : Calls Try.prog 22 #[] w (SmRet w) := by
  go_enter Try.func22, Try.ntmps22
  go_wp2
  refine bodyPost_ret (v := .agg #[.slice (some ⟨w.heap.size + 1, 0, none⟩) 2 2, .slice (some ⟨w.heap.size + 2, 0, none⟩) 1 1, .slice (some ⟨w.heap.size + 3, 0, none⟩) 2 2, .slice (some ⟨w.heap.size + 4, 0, none⟩) 1 1, .slice none 0 0]) (by simp [results, Try.results22, go_sem]) rfl ⟨w.heap.size, Nat.le_refl _, rfl, ⟨?_, ?_, ?_, ?_⟩, ?_⟩
  · exact (((blk_at (by simp)).alloc _).alloc _).alloc _
  · exact ((blk_at (by simp)).alloc _).alloc _
  · exact (blk_at (by simp)).alloc _
  · exact blk_at (by simp)
  · exact bel_alloc (bel_alloc (bel_alloc (bel_alloc (bel_alloc (Below.refl _ _) _) _) _) _) _
theorem wd_small {L : List RuleP} (h : L.length ≤ 10) (hr : ∀ r ∈ L, RuleW r) : PolWd (smallP L) := by
  refine ⟨?_, ?_, hr, Nat.le_of_ble_eq_true rfl, Nat.le_of_ble_eq_true rfl, Nat.le_of_ble_eq_true rfl, Nat.le_of_ble_eq_true rfl, ?_⟩
  · intro g hg
    have : g = 3 := by simpa [smallP] using hg
    omega
  · intro x hx
    have : x = ⟨3, 2, 1⟩ ∨ x = ⟨1, 1, 0⟩ := by simpa [smallP] using hx
    rcases this with rfl | rfl <;> exact ⟨by decide, by decide⟩
  · show L.length ≤ 1000000
    omega
set_option maxRecDepth 100000 in
set_option maxHeartbeats 3200000 in
theorem known_c (w : World) : Calls Try.prog 7 #[] w (RetB w true) := by
  have HSM := Lib.hid (fun V : World => small_c V)
  go_enter Try.func7, Try.ntmps7
  go_wp2_with fail
  (with_reducible refine (HSM.out _).mono ?_)
  rintro e w1 ⟨g, hg, rfl, hS, hb⟩
  have HB1 := Lib.hid hb
  have HS1 := Lib.hid hS
  have hgl : g + 4 < w1.heap.size := hS.2.2.2.lt
  clear hb hS
  obtain ⟨gq, hgq⟩ : ∃ x, w1.heap.size = x := ⟨_, rfl⟩
  obtain ⟨W2, hW2⟩ : ∃ V, w1.alloc (.cells #[.slice (some ⟨g + 1, 0, none⟩) 2 2, .slice (some ⟨g + 2, 0, none⟩) 1 1, .slice (some ⟨g + 3, 0, none⟩) 2 2, .slice (some ⟨g + 4, 0, none⟩) 1 1, .slice none 0 0] 28) = V := ⟨_, rfl⟩
  have HP2 := Lib.hid (show Blk W2 gq 28 #[.slice (some ⟨g + 1, 0, none⟩) 2 2, .slice (some ⟨g + 2, 0, none⟩) 1 1, .slice (some ⟨g + 3, 0, none⟩) 2 2, .slice (some ⟨g + 4, 0, none⟩) 1 1, .slice none 0 0] from by rw [← hW2, ← hgq]; exact Blk.new _ _ _)
  have HX2 := Lib.hid (show Below w1.heap.size w1 W2 from by rw [← hW2]; exact bel_alloc (Below.refl _ _) _)
  have HB2 := Lib.hid (HB1.out.trans (HX2.out.mono HB1.out.size))
  have HS2 := Lib.hid (HS1.out.below HX2.out)
  have h2 : W2.heap.size = gq + 1 := by rw [← hW2, ← hgq]; simp
  have HP3 := Lib.hid (fun (V : World) (hb : Below W2.heap.size W2 V) => ((HS2.out.below hb).rd (B := W2.heap.size) (by rw [h2]; omega) (Ar := none) (cr := 0) (L := []) (nil_rd _ _ _ _)).more hb.size)
  have HM1 := Lib.hid (show Calls Try.prog 10 #[.agg #[.slice (some ⟨g + 1, 0, none⟩) 2 2, .slice (some ⟨g + 2, 0, none⟩) 1 1, .slice (some ⟨g + 3, 0, none⟩) 2 2, .slice (some ⟨g + 4, 0, none⟩) 1 1, .slice none 0 0], .int .i64 0, .int .i64 1, .int .i64 0] W2 (RetB W2 false) from ruMay_c (smS g none 0) (smallP []) W2 2 1 2 1 0 (HP3.out W2 (Below.refl _ _)) (wd_small (by decide) (by simp)) rfl rfl rfl rfl rfl true (right_dec _ _ (by decide +kernel)) 0 1 0 false (by decide +kernel))
  have HW2 := Lib.hid hW2
  have HGQ := Lib.hid hgq
  clear hW2 hgq
  go_wp2_with fail
  rw [HW2.out, HGQ.out]
  (with_reducible refine HM1.out.mono ?_)
  rintro e w3 ⟨rfl, hb⟩
  have HX3 := Lib.hid hb
  have HB3 := Lib.hid (HB2.out.trans (hb.mono HB2.out.size))
  have HQ3 := Lib.hid (HP2.out.below hb HP2.out.lt)
  have HS3 := Lib.hid (HS2.out.below hb)
  clear hb HW2 HM1 HP3
  obtain ⟨l2, y0, y1, y2, y3, y4⟩ := pol5 HQ3.out
  have f4 := HQ3.out.frozen 4
  have h3 : gq < w3.heap.size := l2
  obtain ⟨gr, hgr⟩ : ∃ x, w3.heap.size = x := ⟨_, rfl⟩
  obtain ⟨W4, hW4⟩ : ∃ V, (w3.setCell ⟨gq, 4, none⟩ (.slice (some ⟨gr, 0, none⟩) 1 1)).alloc (.cells #[.int .i64 1, .int .i64 0, .int .i64 1, .int .i64 (-1), .int .i64 0, .int .i64 0, .bool false, .int .u64 0, .int .u64 0, .int .i64 0, .int .u64 0, .int .i64 0] 51) = V := ⟨_, rfl⟩
  have HX4 := Lib.hid (show Below w.heap.size w W4 from by rw [← hW4]; exact bel_alloc (HB3.out.setCell (p := ⟨gq, 4, none⟩) (by have := HB1.out.size; have := HGQ.out; show w.heap.size ≤ gq; omega) _) _)
  have HP4 := Lib.hid (show Blk W4 gq 28 #[.slice (some ⟨g + 1, 0, none⟩) 2 2, .slice (some ⟨g + 2, 0, none⟩) 1 1, .slice (some ⟨g + 3, 0, none⟩) 2 2, .slice (some ⟨g + 4, 0, none⟩) 1 1, .slice (some ⟨gr, 0, none⟩) 1 1] from by rw [← hW4]; have h := (HQ3.out.set_ 4 (.slice (some ⟨gr, 0, none⟩) 1 1)).alloc (.cells #[.int .i64 1, .int .i64 0, .int .i64 1, .int .i64 (-1), .int .i64 0, .int .i64 0, .bool false, .int .u64 0, .int .u64 0, .int .i64 0, .int .u64 0, .int .i64 0] 51); simpa using h)
  have HS4 := Lib.hid (show SmB W4 g from by rw [← hW4]; exact (HS3.out.far (p := ⟨gq, 4, none⟩) (by have := HGQ.out; show g + 4 < gq; omega) _).below (bel_alloc (Below.refl _ _) _))
  have HR4 := Lib.hid (show Blk W4 gr 51 #[.int .i64 1, .int .i64 0, .int .i64 1, .int .i64 (-1), .int .i64 0, .int .i64 0, .bool false, .int .u64 0, .int .u64 0, .int .i64 0, .int .u64 0, .int .i64 0] from by rw [← hW4]; exact blk_at (by simp; exact hgr))
  have h4 : W4.heap.size = gr + 1 := by rw [← hW4, ← hgr]; simp
  have HW4 := Lib.hid hW4
  have HGR := Lib.hid hgr
  clear hW4 hgr
  go_upto_region 4 with fail
  rw [HGR.out, HW4.out]
  clear l2 y0 y1 y2 y3 y4 f4 HW4 HS3 HQ3 HX3
  have HPR := Lib.hid (fun (V : World) (hb : Below W4.heap.size W4 V) => ((HS4.out.below hb).rd (B := W4.heap.size) (by have := HS4.out.2.2.2.lt; exact this) (Ar := (some ⟨gr, 0, none⟩)) (cr := 1) (L := [actR 1 0 1 (-1)]) (blk_rd (HR4.out.below hb HR4.out.lt) HR4.out.lt rfl)).more hb.size)
  have hwd := Lib.hid (wd_small (L := [actR 1 0 1 (-1)]) (by decide) (by intro r hr; have h1 : r = actR 1 0 1 (-1) := (by simpa using hr); subst h1; exact ⟨by decide, by decide, by decide⟩))
  have HRI := Lib.hid (fun (V : World) (hb : Below W4.heap.size W4 V) => show Calls Try.prog 8 #[.agg #[.slice (some ⟨g + 1, 0, none⟩) 2 2, .slice (some ⟨g + 2, 0, none⟩) 1 1, .slice (some ⟨g + 3, 0, none⟩) 2 2, .slice (some ⟨g + 4, 0, none⟩) 1 1, .slice (some ⟨gr, 0, none⟩) 1 1]] V (RetB V true) from ruRight_c (smS g (some ⟨gr, 0, none⟩) 1) (smallP [actR 1 0 1 (-1)]) V 2 1 2 1 1 (HPR.out V hb) hwd.out rfl rfl rfl rfl rfl true (right_dec _ _ (by decide +kernel)))
  have HMA := Lib.hid (fun (V : World) (hb : Below W4.heap.size W4 V) => show Calls Try.prog 10 #[.agg #[.slice (some ⟨g + 1, 0, none⟩) 2 2, .slice (some ⟨g + 2, 0, none⟩) 1 1, .slice (some ⟨g + 3, 0, none⟩) 2 2, .slice (some ⟨g + 4, 0, none⟩) 1 1, .slice (some ⟨gr, 0, none⟩) 1 1], .int .i64 0, .int .i64 1, .int .i64 0] V (RetB V true) from ruMay_c (smS g (some ⟨gr, 0, none⟩) 1) (smallP [actR 1 0 1 (-1)]) V 2 1 2 1 1 (HPR.out V hb) hwd.out rfl rfl rfl rfl rfl true (right_dec _ _ (by decide +kernel)) 0 1 0 true (by decide +kernel))
  have HMB := Lib.hid (fun (V : World) (hb : Below W4.heap.size W4 V) => show Calls Try.prog 10 #[.agg #[.slice (some ⟨g + 1, 0, none⟩) 2 2, .slice (some ⟨g + 2, 0, none⟩) 1 1, .slice (some ⟨g + 3, 0, none⟩) 2 2, .slice (some ⟨g + 4, 0, none⟩) 1 1, .slice (some ⟨gr, 0, none⟩) 1 1], .int .i64 1, .int .i64 1, .int .i64 0] V (RetB V false) from ruMay_c (smS g (some ⟨gr, 0, none⟩) 1) (smallP [actR 1 0 1 (-1)]) V 2 1 2 1 1 (HPR.out V hb) hwd.out rfl rfl rfl rfl rfl true (right_dec _ _ (by decide +kernel)) 1 1 0 false (by decide +kernel))
  obtain ⟨l2, y0, y1, y2, y3, y4⟩ := pol5 HP4.out
  go_wp2_with fail
  (with_reducible refine (HRI.out _ (Below.refl _ _)).mono ?_)
  rintro e w5 ⟨rfl, hb⟩
  have HX5 := Lib.hid hb
  clear hb l2 y0 y1 y2 y3 y4
  obtain ⟨l2, y0, y1, y2, y3, y4⟩ := pol5 (HP4.out.below HX5.out HP4.out.lt)
  go_wp2_with fail
  (with_reducible refine (HMA.out _ HX5.out).mono ?_)
  rintro e w6 ⟨rfl, hb⟩
  have HX6 := Lib.hid (HX5.out.trans (hb.mono HX5.out.size))
  clear hb l2 y0 y1 y2 y3 y4
  obtain ⟨l2, y0, y1, y2, y3, y4⟩ := pol5 (HP4.out.below HX6.out HP4.out.lt)
  go_wp2_with fail
  (with_reducible refine (HMB.out _ HX6.out).mono ?_)
  rintro e w7 ⟨rfl, hb⟩
  have HX7 := Lib.hid (HX4.out.trans ((HX6.out.trans (hb.mono HX6.out.size)).mono HX4.out.size))
  clear hb l2 y0 y1 y2 y3 y4
  go_wp2
  go_ret
  exact ⟨rfl, HX7.out⟩
end Go.Proofs.Ytakofbkbbmpfeaa

/- Policies: right, decided; what pyxhand.Policy returns is right; rows of the call's own read as a policy. -/
import Derived.Test.YtakofbkbbmpfeabRulF
import Derived.Test.YtakofbkbbmpfeabPolD
namespace Go.Proofs.Ytakofbkbbmpfeab
open Go.RowKit
def allIB {α : Type} (p : Nat → α → Bool) : Nat → List α → Bool
  | _, [] => true
  | i, a :: l => p i a && allIB p (i + 1) l
theorem allIB_iff {α : Type} (p : Nat → α → Bool) : ∀ (l : List α) (k : Nat), allIB p k l = true ↔ ∀ i a, l[i]? = some a → p (k + i) a = true
  | [], k => by simp [allIB]
  | a :: l, k => by
    rw [allIB, Bool.and_eq_true, allIB_iff p l (k + 1)]
    constructor
    · rintro ⟨h1, h2⟩ i b e
      cases i with
      | zero => simp at e; subst e; exact h1
      | succ i =>
        rw [List.getElem?_cons_succ] at e
        have := h2 i b e
        rw [show k + 1 + i = k + (i + 1) by omega] at this
        exact this
    · intro h
      refine ⟨h 0 a rfl, fun i b e => ?_⟩
      have := h (i + 1) b (by rw [List.getElem?_cons_succ]; exact e)
      rw [show k + (i + 1) = k + 1 + i by omega] at this
      exact this
instance {α : Type} (p : Nat → α → Prop) [∀ i a, Decidable (p i a)] (l : List α) : Decidable (AllI_ p l) :=
  decidable_of_iff (allIB (fun i a => decide (p i a)) 0 l = true) (by
    rw [allIB_iff]
    unfold AllI_
    simp)
instance (i : Nat) (e : EntP) : Decidable (EntOk i e) := by unfold EntOk; infer_instance
instance (ne nr ng : Nat) (r : RuleP) : Decidable (RulP ne nr ng r) := by unfold RulP; infer_instance
instance (P : PolP) : Decidable (RightPol P) := by unfold RightPol; infer_instance
theorem right_dec (P : PolP) (β : Bool) (h : decide (RightPol P) = β) : β = true ↔ RightPol P := by
  subst h
  exact decide_eq_true_iff
theorem ruleOk_right {ne nr ng : Nat} {r : RuleP} (h : RuleOk ne nr ng r) : RulP ne nr ng r := by
  obtain ⟨tag, role, verb, ent, grp, line, neg, c0, c1, sc, toS, toL⟩ := r
  unfold RuleOk at h
  unfold RulP
  dsimp only at h ⊢
  obtain ⟨h0, h1, ⟨a1, a2, a3, a4, a5, a6, a7, a8, a9, b1, b2, b3, b4, b5⟩ | ⟨a1, a2, a3, a4, a5, a6, a7, a8, a9, b1, b2, b3, b4, b5, b6, b7⟩⟩ := h
  · exact ⟨⟨h0, h1⟩, .inl ⟨by omega, ⟨a3, a4⟩, ⟨a5, a6⟩, a7, a8, ⟨a9, b1, b2, b3⟩, b4, b5⟩⟩
  · subst a8
    subst b2
    have hr : RightD false (c0 : Int) ((0 : Nat) : Int) sc := by
      refine ⟨?_, b3, by omega, by simp⟩
      unfold v2
      simp
      omega
    refine ⟨⟨h0, h1⟩, .inr ⟨a1, a2, a3, ⟨a4, a5⟩, ⟨a6, a7⟩, decide_eq_true hr, ?_, b4, rightB_iff.2 ⟨b5, b6, b7⟩⟩⟩
    rw [signV, if_pos hr]
    unfold zOf v2
    simp
    omega
theorem PolG.right {P : PolP} (h : PolG P) : RightPol P := by
  obtain ⟨N, h2, h4, ⟨hn, he⟩, ⟨hg, hg1, hg3⟩, ⟨hu, hu2⟩, ⟨⟨hw, _⟩, hw2, hw4⟩, hr, hr7, hr13⟩ := h
  refine ⟨⟨⟨by omega, by omega⟩, by omega, ⟨by omega, by omega⟩, rightL_iff.2 ⟨by omega, fun i x e => hu2 i x e⟩, by omega⟩, he, ?_, ?_, ?_⟩
  · rw [hn]
    exact hg
  · intro i x e
    obtain ⟨a, b, c, d⟩ := hw i x e
    exact ⟨rightB_iff.2 ⟨a, b, c⟩, d⟩
  · intro i r e
    rw [hn, hu]
    exact ruleOk_right (hr i r e)
theorem mem_at {α : Type} {l : List α} {a : α} (h : a ∈ l) : ∃ i : Nat, l[i]? = some a := List.getElem?_of_mem h
theorem PolG.wd {P : PolP} (h : PolG P) : PolWd P := by
  obtain ⟨N, h2, h4, ⟨hn, he⟩, ⟨hg, hg1, hg3⟩, ⟨hu, hu2⟩, ⟨⟨hw, _⟩, hw2, hw4⟩, hr, hr7, hr13⟩ := h
  refine ⟨fun g m => ?_, fun x m => ?_, fun r m => ?_, by omega, by omega, by omega, by omega, by omega⟩
  · obtain ⟨i, e⟩ := mem_at m
    have h := (hg i g e).2
    have : 2 ^ N ≤ 2 ^ 4 := Nat.pow_le_pow_right (by decide) h4
    have e4 : (2 : Nat) ^ 4 = 16 := rfl
    omega
  · obtain ⟨i, e⟩ := mem_at m
    obtain ⟨a, b, c, d⟩ := hw i x e
    omega
  · obtain ⟨i, e⟩ := mem_at m
    obtain ⟨_, _, h⟩ := hr i r e
    unfold RuleW
    rcases h with ⟨_, _, _, _, _, _, _, _, _, b1, b2, _, b4, _⟩ | ⟨_, _, _, _, _, _, _, _, _, b1, b2, _, _, b4, _, _⟩ <;> omega
/-- A row of the call's own reads as its cells. -/
theorem own_rd {w : World} {B n size : Nat} {E : TypeId} {v : Value} {xs : List Value} (h : w.ownsRow B E size v n xs) : ∃ A c, v = .slice A n c ∧ n ≤ c ∧ RdR w w.heap.size A n xs := by
  rcases h.2 with ⟨rfl, rfl⟩ | ⟨g, c, cur, rfl, hb, hh, hc, hle, _⟩
  · exact ⟨none, 0, rfl, Nat.le_refl _, fun hn => absurd hn (by decide)⟩
  · refine ⟨_, c, rfl, hc, fun _ => ⟨g, 0, rfl, ?_, fun j u hu => ?_⟩⟩
    · exact own_block h g (by simp [Value.ownBlock])
    · have hx := h.cells (g := g) rfl j u hu
      by_cases hz : j = 0
      · subst hz; simpa [Addr.add] using hx
      · simpa [Addr.add, hz] using hx
theorem rd_il {w : World} {B n c : Nat} {A : Option Addr} {L : List Int} (h : RdR w B A n (L.map zV)) (hl : L.length = n) (hc : n ≤ c) : IL w B A n c L := by
  refine ⟨hl, hc, fun hn => ?_⟩
  obtain ⟨g, o, e, hg, hx⟩ := h hn
  refine ⟨g, o, e, hg, fun j hj => hx j _ ?_⟩
  rw [List.getElem?_map, getD_some (by omega)]
  rfl
/-- Five rows of the call's own read as a policy. -/
theorem RowsW.rd {B : Nat} {w : World} {R : Row5} {P : PolP} (h : RowsW B w R P) : ∃ s : Slp, R.e = .slice s.Ae P.ents.length s.ce ∧ R.g = .slice s.Ag P.grp.length s.cg ∧ R.h = .slice s.Ah P.who.length s.ch ∧ R.u = .slice s.Au P.up.length s.cu ∧ R.r = .slice s.Ar P.rules.length s.cr ∧ PolRd w w.heap.size s P := by
  obtain ⟨A1, c1, e1, _, r1⟩ := own_rd h.1
  obtain ⟨A2, c2, e2, _, r2⟩ := own_rd h.2.1
  obtain ⟨A3, c3, e3, _, r3⟩ := own_rd h.2.2.1
  obtain ⟨A4, c4, e4, l4, r4⟩ := own_rd h.2.2.2.1
  obtain ⟨A5, c5, e5, _, r5⟩ := own_rd h.2.2.2.2
  exact ⟨⟨A1, c1, A2, c2, A3, c3, A4, c4, A5, c5⟩, e1, e2, e3, e4, e5, r1, r2, r3, rd_il r4 rfl l4, r5⟩
end Go.Proofs.Ytakofbkbbmpfeab

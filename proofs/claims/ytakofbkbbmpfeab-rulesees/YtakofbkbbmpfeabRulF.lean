/- A group's label: pyxref4.GroupLabel, rule.Group. -/
import Derived.Test.YtakofbkbbmpfeabRulE
import Derived.Test.YtakofbkbbmpfeabOrdZ
namespace Go.Proofs.Ytakofbkbbmpfeab
open Go.RowKit
/-- The Join of the labels of the group's entities below j. -/
def grpGo (β : Bool) (P : PolP) (g : Nat) : Nat → Nat × Int
  | 0 => (0, 0)
  | j + 1 => if g.testBit j = true then ((grpGo β P g j).1 ||| (entLab β P (j : Int)).1, max (grpGo β P g j).2 (entLab β P (j : Int)).2) else grpGo β P g j
def grpLab (β : Bool) (P : PolP) (k : Int) : Nat × Int := if β = true ∧ 0 ≤ k ∧ k < (P.grp.length : Int) then grpGo β P ((P.grp[k.toNat]?).getD 0) P.ents.length else (0, 0)
theorem entLab_lt (β : Bool) (P : PolP) (k : Int) : (entLab β P k).1 < 256 := by
  unfold entLab
  split
  · exact ofSet_lt k
  · show 0 < 256
    decide
theorem grpGo_lt (β : Bool) (P : PolP) (g : Nat) : ∀ j, (grpGo β P g j).1 < 256
  | 0 => by show 0 < 256; decide
  | j + 1 => by
    have h1 := grpGo_lt β P g j
    have h2 := entLab_lt β P (j : Int)
    unfold grpGo
    split
    · exact Nat.or_lt_two_pow (n := 8) h1 h2
    · exact h1
def GrpRel (W : World) (gp : Nat) (β : Bool) (P : PolP) (g n : Nat) (i : Value) (wr : World) : Prop :=
  ∃ j : Nat, j ≤ n ∧ i = .int .i64 j ∧ Blk wr gp 33 #[.int .u64 ((grpGo β P g j).1 : Int), .int .i64 (grpGo β P g j).2] ∧ Below gp W wr
/-- The Join of the labels of these entities. -/
def joinL (β : Bool) (P : PolP) (L : List Nat) : Nat × Int := L.foldl (fun (a : Nat × Int) (e : Nat) => (a.1 ||| (entLab β P (e : Int)).1, max a.2 (entLab β P (e : Int)).2)) (0, 0)
theorem joinL_snoc (β : Bool) (P : PolP) (L : List Nat) (e : Nat) : joinL β P (L ++ [e]) = ((joinL β P L).1 ||| (entLab β P (e : Int)).1, max (joinL β P L).2 (entLab β P (e : Int)).2) := by
  unfold joinL
  rw [List.foldl_append]
  rfl
theorem joinL_grp (β : Bool) (P : PolP) (g : Nat) : ∀ j, joinL β P (memK g j) = grpGo β P g j
  | 0 => rfl
  | j + 1 => by
    cases h : g.testBit j
    · rw [memK_no h, joinL_grp β P g j]
      unfold grpGo
      rw [h]
      cases j <;> rfl
    · rw [memK_yes h, joinL_snoc, joinL_grp β P g j]
      rw [grpGo, if_pos h]
theorem joinL_lt (β : Bool) (P : PolP) : ∀ L : List Nat, (joinL β P L).1 < 256 := by
  intro L
  have h : ∀ (L : List Nat) (a : Nat × Int), a.1 < 256 → (L.foldl (fun (a : Nat × Int) (e : Nat) => (a.1 ||| (entLab β P (e : Int)).1, max a.2 (entLab β P (e : Int)).2)) a).1 < 256 := by
    intro L
    induction L with
    | nil => intro a h; exact h
    | cons e L ih => intro a h; exact ih _ (Nat.or_lt_two_pow (n := 8) h (entLab_lt β P (e : Int)))
  exact h L (0, 0) (by decide)
theorem memK_top {g n : Nat} (h : g < 2 ^ n) : ∀ d, memK g (n + d) = memK g n
  | 0 => rfl
  | d + 1 => by
    have hb : g.testBit (n + d) = false := Nat.testBit_lt_two_pow (Nat.lt_of_lt_of_le h (Nat.pow_le_pow_right (by decide) (by omega)))
    rw [← Nat.add_assoc, memK_no hb, memK_top h d]
/-- The members' labels joined are the group's label. -/
theorem joinL_all {β : Bool} {P : PolP} {g n : Nat} (h : g < 2 ^ n) (hn : n ≤ 8) : joinL β P (memL g) = grpGo β P g n := by
  have e := memK_top h (8 - n)
  rw [show n + (8 - n) = 8 by omega] at e
  unfold memL
  rw [e, joinL_grp]
theorem NsA.set_ {w : World} {A : Option Addr} {L : List Nat} {g k : Nat} {T : TypeId} {cs : Array Value} (h : NsA w A L) (b : Blk w g T cs) (hT : 3 ≠ T) (v : Value) : NsA (w.setCell ⟨g, k, none⟩ v) A L := fun j hj => by
  obtain ⟨g', cur, hA, hh, hc⟩ := h j hj
  have hne : g' ≠ g := by
    rintro rfl
    unfold Blk at b
    rw [hh] at b
    injection b with b
    injection b with _ b
    exact hT b
  refine ⟨g', cur, hA, (Below.heap_setCell w ⟨g, k, none⟩ v g' hne).trans hh, ?_⟩
  have hx := hc
  unfold World.cell? at hx ⊢
  simp only [Below.heap_setCell w ⟨g, k, none⟩ v g' hne] at hx ⊢
  exact hx
end Go.Proofs.Ytakofbkbbmpfeab

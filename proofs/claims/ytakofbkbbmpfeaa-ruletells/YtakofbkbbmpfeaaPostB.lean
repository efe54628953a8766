/- The row's last step, where of the world behind the call 'Below' is known. -/
import Derived.Test.YtakofbkbbmpfeaaProg
import Derived.WalkKit
import Derived.Below
import Derived.ProofKit
import Derived.ChangeSame
namespace Go.Proofs.Ytakofbkbbmpfeaa
open Go.RowKit Go.WideShapes Go.ChangeShapes
theorem post_bel {H : Type} {enc : TypeId × Value → H} {P : Program} {f : Func} {s : ChangeSpec} {apart fresh handsOn again : Bool} {W W' : World} {args : Array Value} {v : Value} {ds gs : List (DataW H)} {before pa pv : List MemPlace}
    (whole : DataW.Whole enc P f.params.toList s.vars apart W args.toList ds gs before)
    (res : ∀ (b : Nat) (sp : Nat → Bool) (hd : Bool), DataW.TrodAll enc P W' b sp hd f.resultTypes.toList (v.resultList f.resultTypes.size) (s.fn H (ds ++ gs)).results [])
    (ars : ∀ sp : Nat → Bool, (∀ p ∈ before, sp p.block = true) → DataW.TrodAll enc P W' 0 sp true f.params.toList args.toList (s.fn H (ds ++ gs)).args pa)
    (vrs : ∀ sp : Nat → Bool, (∀ p ∈ before, sp p.block = true) → DataW.TrodVars enc P W' sp s.vars (s.fn H (ds ++ gs)).vars pv)
    (places : before = pa ++ pv) (bel : Below W.heap.size W W')
    (ok : ∀ (j : Nat) (t : TypeId) (r : Value), f.resultTypes[j]? = some t → (v.resultList f.resultTypes.size)[j]? = some r → Value.okWide P W' .any 0 t r) :
    s.post enc P f apart fresh handsOn again W args v W' := by
  have old : ∀ p ∈ before, p.block < W.heap.size := fun p hp => whole.lt p hp
  have olds : ∀ p ∈ before, (fun b => decide (b < W.heap.size)) p.block = true := fun p hp => by simpa using old p hp
  refine ⟨ds, gs, before, [], pa, pv, whole, res _ _ _, ars _ olds, vrs _ olds, World.keptBut_mono (fun p hp => ⟨hp, ?_⟩) (bel.frame (· ∈ before)), fun _ => ?_⟩
  · rw [places, List.mem_append] at hp
    exact Or.inr hp
  · obtain ⟨_, _, _, _, _, fz, nd⟩ := whole
    refine ⟨ok, _, _, ([] ++ pa) ++ pv, ⟨[] ++ pa, pv, trodAll_append (ars _ (fun _ _ => rfl)) (res _ _ _), vrs _ (fun _ _ => rfl), rfl, ?_, ?_⟩, ?_⟩
    · intro b off hp
      have here : MemPlace.cell b off ∈ before := by rw [places]; simpa using hp
      rw [bel.frozen (old _ here)]
      exact fz b off here
    · intro ha
      have := nd ha
      rw [places] at this
      simpa using this
    · intro p hp _
      rw [places]
      simpa using hp
end Go.Proofs.Ytakofbkbbmpfeaa

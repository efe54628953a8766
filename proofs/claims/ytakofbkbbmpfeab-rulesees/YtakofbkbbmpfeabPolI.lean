/- pyxref4.EntLabel: an entity's label. -/
/- pyxref4.Sees. -/
/- pyxref4.Releases. -/
import Derived.Test.YtakofbkbbmpfeabPolF
namespace Go.Proofs.Ytakofbkbbmpfeab
open Go.RowKit
/-- The label of entity k; none, if there is no such one, or the policy is not right. -/
def entLab (β : Bool) (P : PolP) (k : Int) : Nat × Int := if β = true ∧ 0 ≤ k ∧ k < (P.ents.length : Int) then (ofSet k, min (max ((P.ents[k.toNat]?.map EntP.lv).getD 0) 0) 3) else (0, 0)
end Go.Proofs.Ytakofbkbbmpfeab

namespace Go.Proofs.Ytakofbkbbmpfeab
open Go.RowKit
def whoAt (P : PolP) (k : Int) : WhoP := (P.who[k.toNat]?).getD ⟨0, 0, 0⟩
/-- Is that label below what this principal may see? -/
def seesB (β : Bool) (P : PolP) (k : Int) (a : Nat) (u : Int) : Bool := β && (decide (0 ≤ k) && (decide (k < (P.who.length : Int)) && belowB a u (whoAt P k).set (whoAt P k).lv))
end Go.Proofs.Ytakofbkbbmpfeab

namespace Go.Proofs.Ytakofbkbbmpfeab
open Go.RowKit
def ruleAt (P : PolP) (k : Int) : RuleP := (P.rules[k.toNat]?).getD ⟨0, 0, 0, 0, 0, 0, false, 0, 0, 0, 0, 0⟩
/-- May this principal let out by that rule? -/
def relB (β : Bool) (P : PolP) (k m : Int) : Bool := β && (decide (0 ≤ k) && (decide (k < (P.who.length : Int)) && (decide (0 ≤ m) && (decide (m < (P.rules.length : Int)) && (decide ((ruleAt P m).tag = 3) && hasV P.up (whoAt P k).ro (ruleAt P m).role)))))
end Go.Proofs.Ytakofbkbbmpfeab

/- pyxref4.rightRule: is a rule right? -/
import Derived.Test.YtakofbkbbmpfeabPolA
import Derived.Test.YtakofbkbbmpfeabRefQ
import Derived.Test.YtakofbkbbmpfeabLabE
namespace Go.Proofs.Ytakofbkbbmpfeab
open Go.RowKit
/-- Its words are words. -/
def RuleW (r : RuleP) : Prop := r.c0 < 18446744073709551616 ∧ r.c1 < 18446744073709551616 ∧ r.toS < 18446744073709551616
/-- A rule that is right, of ne entities, nr roles, ng groups. -/
def RulP (ne nr ng : Nat) (r : RuleP) : Prop := (0 ≤ r.role ∧ r.role < (nr : Int)) ∧
  (((r.tag = 1 ∨ r.tag = 2) ∧ (1 ≤ r.verb ∧ r.verb ≤ 3) ∧ (-1 ≤ r.ent ∧ r.ent < (ne : Int)) ∧ r.grp = 0 ∧ r.line = 0 ∧ (r.neg = false ∧ r.c0 = 0 ∧ r.c1 = 0 ∧ r.sc = 0) ∧ r.toS = 0 ∧ r.toL = 0) ∨
   (r.tag = 3 ∧ r.verb = 0 ∧ r.ent = -1 ∧ (0 ≤ r.grp ∧ r.grp < (ng : Int)) ∧ (0 ≤ r.line ∧ r.line < 6) ∧ decide (RightD r.neg (r.c0 : Int) (r.c1 : Int) r.sc) = true ∧ 0 < signV r.neg (r.c0 : Int) (r.c1 : Int) r.sc ∧ r.sc ≤ 2 ∧ rightB r.toS r.toL = true))
def Sl5 (Ae Ag Ah Au Ar : Option Addr) (ne ce ng cg nh ch nu cu nr cr : Nat) : Value := .agg #[.slice Ae ne ce, .slice Ag ng cg, .slice Ah nh ch, .slice Au nu cu, .slice Ar nr cr]
end Go.Proofs.Ytakofbkbbmpfeab

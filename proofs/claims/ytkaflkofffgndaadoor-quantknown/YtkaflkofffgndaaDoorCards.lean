/-
  DERIVED. GIVEN WITH THE SEED: THE CARDS: each row of YtkaflkofffgndaaDoorRows.lean that lists a variable, with what it lists TIED to the program's text (the seventh form; the later family's looks); each row that meets fmt, with fmt's text TOLD by the authors' own Lean function (tested against real Go, not proved from fmt's source: count such statements apart). THE CARD IS WHAT COUNTS. Prove the row's statement (the work); the ties are given (YtkaflkofffgndaaDoorTie.lean); close each card by the builder's one call (the guide's Derived/Test/ToyasCard.lean, 'card_holds'). Laid BY PROGRAM, IN A SANDBOX (cutbox-door.mjs). By AI agents, Wed Nov 11 2026. No macro, syntax, notation, axiom, sorry.
-/
import Derived.Test.YtkaflkofffgndaaDoorRows
import GoSem.ClaimSeven
namespace Go.Proofs.YtkaflkofffgndaaDoor
namespace Rows

/-- THE TIED CARD OF 'pyxlaw3.QuantKnown'. -/
def quantKnownCard : Claim7 := { stood := { row := quantKnownRow, standIns := [], harness := (true, "07589156baedfd1aaf315ec2a59cae02040356d062018bda31ec3679da4df5cd"), looks := false }, kinds := [], alts := [], laidByText := true, laidKinds := [.data, .data, .data, .data, .pinned], laidTests := true, laidLooks := .later }
def QuantKnownCardSaid : Prop := Claim7.holds Tryd.pinned (.plain (OpenSpec.ofChange quantKnownSpec)) quantKnownCard

/-- THE SECOND FORM's CARD OF 'pyxlaw3.QuantKnown'. -/
def quantKnownUptoCard : Claim7 := { stood := { row := quantKnownUptoRow, standIns := [], harness := (true, "07589156baedfd1aaf315ec2a59cae02040356d062018bda31ec3679da4df5cd"), looks := false }, kinds := [], alts := [], laidByText := true, laidKinds := [.data, .data, .data, .data, .pinned], laidTests := true, laidLooks := .later }
def QuantKnownUptoCardSaid : Prop := Claim7.holds Tryd.pinned (.plain (OpenSpec.upto quantKnownSpec)) quantKnownUptoCard
end Rows
end Go.Proofs.YtkaflkofffgndaaDoor

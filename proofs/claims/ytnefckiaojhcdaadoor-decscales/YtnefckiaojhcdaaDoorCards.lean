/-
  DERIVED. GIVEN WITH THE SEED: THE CARDS: each row of YtnefckiaojhcdaaDoorRows.lean that lists a variable, with what it lists TIED to the program's text (the seventh form; the later family's looks); each row that meets fmt, with fmt's text TOLD by the authors' own Lean function (tested against real Go, not proved from fmt's source: count such statements apart). THE CARD IS WHAT COUNTS. Prove the row's statement (the work); the ties are given (YtnefckiaojhcdaaDoorTie.lean); close each card by the builder's one call (the guide's Derived/Test/ToyasCard.lean, 'card_holds'). Laid BY PROGRAM, IN A SANDBOX (cutbox-door.mjs). By AI agents, Wed Nov 11 2026. No macro, syntax, notation, axiom, sorry.
-/
import Derived.Test.YtnefckiaojhcdaaDoorRows
import GoSem.ClaimSeven
namespace Go.Proofs.YtnefckiaojhcdaaDoor
namespace Rows

/-- THE TIED CARD OF 'pyxlaw2.DecKnown'. -/
def decKnownCard : Claim7 := { stood := { row := decKnownRow, standIns := [], harness := (true, "e49d991d643b5412bd8eae8a31f2f85b78ce823fdf04d9c05e97901861921d6a"), looks := false }, kinds := [], alts := [], laidByText := true, laidKinds := [.data, .data, .data, .data, .pinned], laidTests := true, laidLooks := .later }
def DecKnownCardSaid : Prop := Claim7.holds Tryd.pinned (.plain (OpenSpec.ofChange decKnownSpec)) decKnownCard

/-- THE TIED CARD OF 'pyxlaw2.DecScales'. -/
def decScalesCard : Claim7 := { stood := { row := decScalesRow, standIns := [], harness := (true, "e49d991d643b5412bd8eae8a31f2f85b78ce823fdf04d9c05e97901861921d6a"), looks := false }, kinds := [], alts := [], laidByText := true, laidKinds := [.data, .data, .data, .data, .pinned], laidTests := true, laidLooks := .later }
def DecScalesCardSaid : Prop := Claim7.holds Tryd.pinned (.plain (OpenSpec.ofChange decScalesSpec)) decScalesCard

/-- THE TIED CARD OF 'pyxlaw3.QuantKnown'. -/
def quantKnownCard : Claim7 := { stood := { row := quantKnownRow, standIns := [], harness := (true, "e49d991d643b5412bd8eae8a31f2f85b78ce823fdf04d9c05e97901861921d6a"), looks := false }, kinds := [], alts := [], laidByText := true, laidKinds := [.data, .data, .data, .data, .pinned], laidTests := true, laidLooks := .later }
def QuantKnownCardSaid : Prop := Claim7.holds Tryd.pinned (.plain (OpenSpec.ofChange quantKnownSpec)) quantKnownCard

/-- THE SECOND FORM's CARD OF 'pyxlaw2.DecKnown'. -/
def decKnownUptoCard : Claim7 := { stood := { row := decKnownUptoRow, standIns := [], harness := (true, "e49d991d643b5412bd8eae8a31f2f85b78ce823fdf04d9c05e97901861921d6a"), looks := false }, kinds := [], alts := [], laidByText := true, laidKinds := [.data, .data, .data, .data, .pinned], laidTests := true, laidLooks := .later }
def DecKnownUptoCardSaid : Prop := Claim7.holds Tryd.pinned (.plain (OpenSpec.upto decKnownSpec)) decKnownUptoCard

/-- THE SECOND FORM's CARD OF 'pyxlaw2.DecScales'. -/
def decScalesUptoCard : Claim7 := { stood := { row := decScalesUptoRow, standIns := [], harness := (true, "e49d991d643b5412bd8eae8a31f2f85b78ce823fdf04d9c05e97901861921d6a"), looks := false }, kinds := [], alts := [], laidByText := true, laidKinds := [.data, .data, .data, .data, .pinned], laidTests := true, laidLooks := .later }
def DecScalesUptoCardSaid : Prop := Claim7.holds Tryd.pinned (.plain (OpenSpec.upto decScalesSpec)) decScalesUptoCard

/-- THE SECOND FORM's CARD OF 'pyxlaw3.QuantKnown'. -/
def quantKnownUptoCard : Claim7 := { stood := { row := quantKnownUptoRow, standIns := [], harness := (true, "e49d991d643b5412bd8eae8a31f2f85b78ce823fdf04d9c05e97901861921d6a"), looks := false }, kinds := [], alts := [], laidByText := true, laidKinds := [.data, .data, .data, .data, .pinned], laidTests := true, laidLooks := .later }
def QuantKnownUptoCardSaid : Prop := Claim7.holds Tryd.pinned (.plain (OpenSpec.upto quantKnownSpec)) quantKnownUptoCard
end Rows
end Go.Proofs.YtnefckiaojhcdaaDoor

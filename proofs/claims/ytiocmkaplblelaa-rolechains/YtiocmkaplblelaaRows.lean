/-
  No cell of these rows narrows 'for every input' (looked for: loops, veiled, ifaces, maps, wideKeys, modest, calm, conditions, laid).
  DERIVED. THE GIVEN ROWS OF THIS SEAT. 4 by the template 'for every input the law returns true; each argument reads behind the call as it read before'; 0 by the template 'total and deterministic' (their statements: YtiocmkaplblelaaTotals.lean).
  GIVEN WITH THE SEED: the statements are not yours to turn. If you find one false, say at which input.
  Laid BY PROGRAM, IN A SANDBOX (cutbox-rows.mjs): the forced cells as the released guide's own fill.sh prints them over the translation 64948775704436dd… (all of the seat's roots in one cut). By AI agents, Wed Nov 11 2026. No macro, syntax, notation, axiom, sorry.
-/
import Derived.Test.YtiocmkaplblelaaChecked
import GoSem.Claim
import GoSem.ClaimJoined
import GoSem.ClaimMapViews
import Derived.JoinedTies
import Derived.KernelRfl
namespace Go.Proofs.Ytiocmkaplblelaa
/- THE CELL 'sum', in the pinned program and in every row, IS THE sha256 OF THE DUMP (.gsa) THAT YtiocmkaplblelaaProg.lean LOADS. Nothing in Lean hashes anything: it is a label: what it is worth is what the hold of that sum in a sandbox is worth. -/
noncomputable def Try.pinned : Pinned := { name := "ytiocmkaplblelaa", sum := "64948775704436ddcfa4fe49e6d29743ec6b97d1f46fc1465b2bab09b615989b", checked := Try.checked }
namespace Rows
def none {H : Type} : Left H := { results := [], args := [] }

/-- 'pyxlaw9.RoleKnown': WHATEVER THE INPUT: true; the input reads as it did. -/
def roleKnownSpec : ChangeSpec := { name := "roleKnown", fn := fun _ => fun
  | [] => { results := [.lit (.bool true)], args := [] }
  | _ => none }
def roleKnownRow : OpenClaim := { program := "ytiocmkaplblelaa", sum := "64948775704436ddcfa4fe49e6d29743ec6b97d1f46fc1465b2bab09b615989b", func := "pyx/pyxlaw9.RoleKnown", spec := "roleKnown", apart := false }
def RoleKnownSaid : Prop := roleKnownRow.holds Try.pinned (OpenSpec.ofChange roleKnownSpec)

/-- ITS FALSE NEIGHBOUR: 'it returns false'. Refute it at one input. -/
def roleKnownWrong : ChangeSpec := { name := "roleKnown", fn := fun _ => fun
  | [] => { results := [.lit (.bool false)], args := [] }
  | _ => none }
def RoleKnownWrongFalsely : Prop := roleKnownRow.holds Try.pinned (OpenSpec.ofChange roleKnownWrong)

/-- 'pyxlaw9.RoleTells': WHATEVER THE INPUT: true; the input reads as it did. -/
def roleTellsSpec : ChangeSpec := { name := "roleTells", fn := fun _ => fun
  | [d1, d2, d3, d4] => { results := [.lit (.bool true)], args := [d1, d2, d3, d4] }
  | _ => none }
def roleTellsRow : OpenClaim := { program := "ytiocmkaplblelaa", sum := "64948775704436ddcfa4fe49e6d29743ec6b97d1f46fc1465b2bab09b615989b", func := "pyx/pyxlaw9.RoleTells", spec := "roleTells", apart := false }
def RoleTellsSaid : Prop := roleTellsRow.holds Try.pinned (OpenSpec.ofChange roleTellsSpec)

/-- ITS FALSE NEIGHBOUR: 'it returns false'. Refute it at one input. -/
def roleTellsWrong : ChangeSpec := { name := "roleTells", fn := fun _ => fun
  | [d1, d2, d3, d4] => { results := [.lit (.bool false)], args := [d1, d2, d3, d4] }
  | _ => none }
def RoleTellsWrongFalsely : Prop := roleTellsRow.holds Try.pinned (OpenSpec.ofChange roleTellsWrong)

/-- 'pyxlaw9.RoleGrows': WHATEVER THE INPUT: true; the input reads as it did. -/
def roleGrowsSpec : ChangeSpec := { name := "roleGrows", fn := fun _ => fun
  | [d1, d2, d3] => { results := [.lit (.bool true)], args := [d1, d2, d3] }
  | _ => none }
def roleGrowsRow : OpenClaim := { program := "ytiocmkaplblelaa", sum := "64948775704436ddcfa4fe49e6d29743ec6b97d1f46fc1465b2bab09b615989b", func := "pyx/pyxlaw9.RoleGrows", spec := "roleGrows", apart := false }
def RoleGrowsSaid : Prop := roleGrowsRow.holds Try.pinned (OpenSpec.ofChange roleGrowsSpec)

/-- ITS FALSE NEIGHBOUR: 'it returns false'. Refute it at one input. -/
def roleGrowsWrong : ChangeSpec := { name := "roleGrows", fn := fun _ => fun
  | [d1, d2, d3] => { results := [.lit (.bool false)], args := [d1, d2, d3] }
  | _ => none }
def RoleGrowsWrongFalsely : Prop := roleGrowsRow.holds Try.pinned (OpenSpec.ofChange roleGrowsWrong)

/-- 'pyxlaw9.RoleChains': WHATEVER THE INPUT: true; the input reads as it did. -/
def roleChainsSpec : ChangeSpec := { name := "roleChains", fn := fun _ => fun
  | [d1, d2] => { results := [.lit (.bool true)], args := [d1, d2] }
  | _ => none }
def roleChainsRow : OpenClaim := { program := "ytiocmkaplblelaa", sum := "64948775704436ddcfa4fe49e6d29743ec6b97d1f46fc1465b2bab09b615989b", func := "pyx/pyxlaw9.RoleChains", spec := "roleChains", apart := false }
def RoleChainsSaid : Prop := roleChainsRow.holds Try.pinned (OpenSpec.ofChange roleChainsSpec)

/-- ITS FALSE NEIGHBOUR: 'it returns false'. Refute it at one input. -/
def roleChainsWrong : ChangeSpec := { name := "roleChains", fn := fun _ => fun
  | [d1, d2] => { results := [.lit (.bool false)], args := [d1, d2] }
  | _ => none }
def RoleChainsWrongFalsely : Prop := roleChainsRow.holds Try.pinned (OpenSpec.ofChange roleChainsWrong)

/- THE SECOND FORM. 'bulk': how many values and letters a reading holds, each counted each time it is reached (what is shared counts as often as it is met; a slice's spare places count too). A statement '..UptoSaid' is the law's where the arguments, and the package variables that the reading takes, are together of bulk at most 1048576: NARROWER than '..Said'. Prove '..Said' where nothing that the law and all that it calls make is longer than what came in: it says more and counts as full. Else prove '..UptoSaid'. A law counts once. -/
mutual
def uptoBulk {H : Type} : DataW H → Nat
  | .lit (.string bytes) => bytes.length + 1
  | .lit _ => 1
  | .nil => 1
  | .ptr d => uptoBulk d + 1
  | .slice elems spare => uptoBulkAll elems + uptoBulkAll spare + 1
  | .agg parts => uptoBulkAll parts + 1
  | .iface _ d => uptoBulk d + 1
  | .map entries => uptoBulkEntries entries + 1
  | .held _ => 1
def uptoBulkAll {H : Type} : List (DataW H) → Nat
  | [] => 0
  | d :: r => uptoBulk d + uptoBulkAll r
def uptoBulkEntries {H : Type} : List (Lit × DataW H) → Nat
  | [] => 0
  | x :: r => uptoBulkEntry x + uptoBulkEntries r
def uptoBulkEntry {H : Type} : Lit × DataW H → Nat
  | (.string bytes, d) => bytes.length + uptoBulk d + 1
  | (_, d) => uptoBulk d + 1
 end
def uptoSmall : (H : Type) → List (DataW H) → Bool := fun _ ds => decide (uptoBulkAll ds ≤ 1048576)
def OpenSpec.upto (s : _root_.Go.ChangeSpec) : _root_.Go.OpenSpec := { _root_.Go.OpenSpec.ofChange s with cond := some uptoSmall }

/-- 'pyxlaw9.RoleKnown', WHERE WHAT IT READS IS OF BULK AT MOST 1048576: true; the input reads as it did. -/
def roleKnownUptoRow : OpenClaim := { program := "ytiocmkaplblelaa", sum := "64948775704436ddcfa4fe49e6d29743ec6b97d1f46fc1465b2bab09b615989b", func := "pyx/pyxlaw9.RoleKnown", spec := "roleKnown", apart := false, narrowed := true }
def RoleKnownUptoSaid : Prop := roleKnownUptoRow.holds Try.pinned (OpenSpec.upto roleKnownSpec)

/-- 'pyxlaw9.RoleTells', WHERE WHAT IT READS IS OF BULK AT MOST 1048576: true; the input reads as it did. -/
def roleTellsUptoRow : OpenClaim := { program := "ytiocmkaplblelaa", sum := "64948775704436ddcfa4fe49e6d29743ec6b97d1f46fc1465b2bab09b615989b", func := "pyx/pyxlaw9.RoleTells", spec := "roleTells", apart := false, narrowed := true }
def RoleTellsUptoSaid : Prop := roleTellsUptoRow.holds Try.pinned (OpenSpec.upto roleTellsSpec)

/-- 'pyxlaw9.RoleGrows', WHERE WHAT IT READS IS OF BULK AT MOST 1048576: true; the input reads as it did. -/
def roleGrowsUptoRow : OpenClaim := { program := "ytiocmkaplblelaa", sum := "64948775704436ddcfa4fe49e6d29743ec6b97d1f46fc1465b2bab09b615989b", func := "pyx/pyxlaw9.RoleGrows", spec := "roleGrows", apart := false, narrowed := true }
def RoleGrowsUptoSaid : Prop := roleGrowsUptoRow.holds Try.pinned (OpenSpec.upto roleGrowsSpec)

/-- 'pyxlaw9.RoleChains', WHERE WHAT IT READS IS OF BULK AT MOST 1048576: true; the input reads as it did. -/
def roleChainsUptoRow : OpenClaim := { program := "ytiocmkaplblelaa", sum := "64948775704436ddcfa4fe49e6d29743ec6b97d1f46fc1465b2bab09b615989b", func := "pyx/pyxlaw9.RoleChains", spec := "roleChains", apart := false, narrowed := true }
def RoleChainsUptoSaid : Prop := roleChainsUptoRow.holds Try.pinned (OpenSpec.upto roleChainsSpec)

end Rows
end Go.Proofs.Ytiocmkaplblelaa

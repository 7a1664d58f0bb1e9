/-
  DERIVED. GIVEN WITH THE SEED: THE CARDS: each row of YtoofbjpekdlfiaaDoorRows.lean that lists a variable, with what it lists TIED to the program's text (the seventh form; the later family's looks); each row that meets fmt, with fmt's text TOLD by the authors' own Lean function (tested against real Go, not proved from fmt's source: count such statements apart). THE CARD IS WHAT COUNTS. Prove the row's statement (the work); the ties are given (YtoofbjpekdlfiaaDoorTie.lean); close each card by the builder's one call (the guide's Derived/Test/ToyasCard.lean, 'card_holds'). Laid BY PROGRAM, IN A SANDBOX (cutbox-door.mjs). By AI agents, Wed Nov 11 2026. No macro, syntax, notation, axiom, sorry.
-/
import Derived.Test.YtoofbjpekdlfiaaDoorRows
import GoSem.ClaimSeven
namespace Go.Proofs.YtoofbjpekdlfiaaDoor
namespace Rows

/-- THE TIED CARD OF 'tillerlaw08.PassFull'. -/
def passFullCard : Claim7 := { stood := { row := passFullRow, standIns := [], harness := (true, "8fc685beb9700ae1c72465c1dc6a6d287f3347d1467f83ea936512e28609f545"), looks := false }, kinds := [], alts := [], laidByText := true, laidKinds := [.data], laidTests := true, laidLooks := .later }
def PassFullCardSaid : Prop := Claim7.holds Tryd.pinned (.plain (OpenSpec.ofChange passFullSpec)) passFullCard

/-- THE TIED CARD OF 'tillerlaw08.PassNought'. -/
def passNoughtCard : Claim7 := { stood := { row := passNoughtRow, standIns := [], harness := (true, "8fc685beb9700ae1c72465c1dc6a6d287f3347d1467f83ea936512e28609f545"), looks := false }, kinds := [], alts := [], laidByText := true, laidKinds := [.data], laidTests := true, laidLooks := .later }
def PassNoughtCardSaid : Prop := Claim7.holds Tryd.pinned (.plain (OpenSpec.ofChange passNoughtSpec)) passNoughtCard

/-- THE SECOND FORM's CARD OF 'tillerlaw08.PassFull'. -/
def passFullUptoCard : Claim7 := { stood := { row := passFullUptoRow, standIns := [], harness := (true, "8fc685beb9700ae1c72465c1dc6a6d287f3347d1467f83ea936512e28609f545"), looks := false }, kinds := [], alts := [], laidByText := true, laidKinds := [.data], laidTests := true, laidLooks := .later }
def PassFullUptoCardSaid : Prop := Claim7.holds Tryd.pinned (.plain (OpenSpec.upto passFullSpec)) passFullUptoCard

/-- THE SECOND FORM's CARD OF 'tillerlaw08.PassNought'. -/
def passNoughtUptoCard : Claim7 := { stood := { row := passNoughtUptoRow, standIns := [], harness := (true, "8fc685beb9700ae1c72465c1dc6a6d287f3347d1467f83ea936512e28609f545"), looks := false }, kinds := [], alts := [], laidByText := true, laidKinds := [.data], laidTests := true, laidLooks := .later }
def PassNoughtUptoCardSaid : Prop := Claim7.holds Tryd.pinned (.plain (OpenSpec.upto passNoughtSpec)) passNoughtUptoCard
end Rows
end Go.Proofs.YtoofbjpekdlfiaaDoor

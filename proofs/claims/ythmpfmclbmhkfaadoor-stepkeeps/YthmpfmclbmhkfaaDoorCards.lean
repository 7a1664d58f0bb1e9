/-
  DERIVED. GIVEN WITH THE SEED: THE CARDS: each row of YthmpfmclbmhkfaaDoorRows.lean that lists a variable, with what it lists TIED to the program's text (the seventh form; the later family's looks); each row that meets fmt, with fmt's text TOLD by the authors' own Lean function (tested against real Go, not proved from fmt's source: count such statements apart). THE CARD IS WHAT COUNTS. Prove the row's statement (the work); the ties are given (YthmpfmclbmhkfaaDoorTie.lean); close each card by the builder's one call (the guide's Derived/Test/ToyasCard.lean, 'card_holds'). Laid BY PROGRAM, IN A SANDBOX (cutbox-door.mjs). By AI agents, Wed Nov 11 2026. No macro, syntax, notation, axiom, sorry.
-/
import Derived.Test.YthmpfmclbmhkfaaDoorRows
import GoSem.ClaimSeven
namespace Go.Proofs.YthmpfmclbmhkfaaDoor
namespace Rows

/-- THE TIED CARD OF 'tillerlaw09.StepKeeps'. -/
def stepKeepsCard : Claim7 := { stood := { row := stepKeepsRow, standIns := [], harness := (true, "85a4cf77923b619ea0e03e379116a15a33bb42dfd728ab091d2259ddd69a9c40"), looks := false }, kinds := [], alts := [], laidByText := true, laidKinds := [.data], laidTests := true, laidLooks := .later }
def StepKeepsCardSaid : Prop := Claim7.holds Tryd.pinned (.plain (OpenSpec.ofChange stepKeepsSpec)) stepKeepsCard

/-- THE SECOND FORM's CARD OF 'tillerlaw09.StepKeeps'. -/
def stepKeepsUptoCard : Claim7 := { stood := { row := stepKeepsUptoRow, standIns := [], harness := (true, "85a4cf77923b619ea0e03e379116a15a33bb42dfd728ab091d2259ddd69a9c40"), looks := false }, kinds := [], alts := [], laidByText := true, laidKinds := [.data], laidTests := true, laidLooks := .later }
def StepKeepsUptoCardSaid : Prop := Claim7.holds Tryd.pinned (.plain (OpenSpec.upto stepKeepsSpec)) stepKeepsUptoCard
end Rows
end Go.Proofs.YthmpfmclbmhkfaaDoor

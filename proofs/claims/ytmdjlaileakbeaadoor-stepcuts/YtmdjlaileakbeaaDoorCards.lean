/-
  DERIVED. GIVEN WITH THE SEED: THE CARDS: each row of YtmdjlaileakbeaaDoorRows.lean that lists a variable, with what it lists TIED to the program's text (the seventh form; the later family's looks); each row that meets fmt, with fmt's text TOLD by the authors' own Lean function (tested against real Go, not proved from fmt's source: count such statements apart). THE CARD IS WHAT COUNTS. Prove the row's statement (the work); the ties are given (YtmdjlaileakbeaaDoorTie.lean); close each card by the builder's one call (the guide's Derived/Test/ToyasCard.lean, 'card_holds'). Laid BY PROGRAM, IN A SANDBOX (cutbox-door.mjs). By AI agents, Wed Nov 11 2026. No macro, syntax, notation, axiom, sorry.
-/
import Derived.Test.YtmdjlaileakbeaaDoorRows
import GoSem.ClaimSeven
namespace Go.Proofs.YtmdjlaileakbeaaDoor
namespace Rows

/-- THE TIED CARD OF 'tillerlaw09.StepCuts'. -/
def stepCutsCard : Claim7 := { stood := { row := stepCutsRow, standIns := [], harness := (true, "c445aef456baec7777c5dda25de888755c52c995caef26990cb32178c8795ddd"), looks := false }, kinds := [], alts := [], laidByText := true, laidKinds := [.data], laidTests := true, laidLooks := .later }
def StepCutsCardSaid : Prop := Claim7.holds Tryd.pinned (.plain (OpenSpec.ofChange stepCutsSpec)) stepCutsCard

/-- THE SECOND FORM's CARD OF 'tillerlaw09.StepCuts'. -/
def stepCutsUptoCard : Claim7 := { stood := { row := stepCutsUptoRow, standIns := [], harness := (true, "c445aef456baec7777c5dda25de888755c52c995caef26990cb32178c8795ddd"), looks := false }, kinds := [], alts := [], laidByText := true, laidKinds := [.data], laidTests := true, laidLooks := .later }
def StepCutsUptoCardSaid : Prop := Claim7.holds Tryd.pinned (.plain (OpenSpec.upto stepCutsSpec)) stepCutsUptoCard
end Rows
end Go.Proofs.YtmdjlaileakbeaaDoor

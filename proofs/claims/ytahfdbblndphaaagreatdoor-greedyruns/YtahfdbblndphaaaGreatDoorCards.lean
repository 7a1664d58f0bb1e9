/-
  DERIVED. GIVEN WITH THE SEED: THE CARDS: each row of YtahfdbblndphaaaGreatDoorRows.lean that lists a variable, with what it lists TIED to the program's text (the seventh form; the later family's looks); each row that meets fmt, with fmt's text TOLD by the authors' own Lean function (tested against real Go, not proved from fmt's source: count such statements apart). THE CARD IS WHAT COUNTS. Prove the row's statement (the work); the ties are given (YtahfdbblndphaaaGreatDoorTie.lean); close each card by the builder's one call (the guide's Derived/Test/ToyasCard.lean, 'card_holds'). Laid BY PROGRAM, IN A SANDBOX (cutbox-door.mjs). By AI agents, Wed Nov 11 2026. No macro, syntax, notation, axiom, sorry.
-/
import Derived.Test.YtahfdbblndphaaaGreatDoorRows
import GoSem.ClaimSeven
namespace Go.Proofs.YtahfdbblndphaaaGreatDoor
namespace Rows

/-- THE TIED CARD OF 'tillerlaw10.GreedyRuns'. -/
def greedyRunsCard : Claim7 := { stood := { row := greedyRunsRow, standIns := [], harness := (true, "69218e4a36079bef1ab2ea5dbb04939b7453014fb90641a8c252e2a9da3a4c64"), looks := false }, kinds := [], alts := [], laidByText := true, laidKinds := [.data], laidTests := true, laidLooks := .later }
def GreedyRunsCardSaid : Prop := Claim7.holds Tryz.pinned (.plain (OpenSpec.ofChange greedyRunsSpec)) greedyRunsCard

/-- THE SECOND FORM's CARD OF 'tillerlaw10.GreedyRuns'. -/
def greedyRunsUptoCard : Claim7 := { stood := { row := greedyRunsUptoRow, standIns := [], harness := (true, "69218e4a36079bef1ab2ea5dbb04939b7453014fb90641a8c252e2a9da3a4c64"), looks := false }, kinds := [], alts := [], laidByText := true, laidKinds := [.data], laidTests := true, laidLooks := .later }
def GreedyRunsUptoCardSaid : Prop := Claim7.holds Tryz.pinned (.plain (OpenSpec.upto greedyRunsSpec)) greedyRunsUptoCard
end Rows
end Go.Proofs.YtahfdbblndphaaaGreatDoor

/-
  DERIVED. GIVEN WITH THE SEED: THE CARDS: each row of YtmdjlaileakbeaaGreatDoorRows.lean that lists a variable, with what it lists TIED to the program's text (the seventh form; the later family's looks); each row that meets fmt, with fmt's text TOLD by the authors' own Lean function (tested against real Go, not proved from fmt's source: count such statements apart). THE CARD IS WHAT COUNTS. Prove the row's statement (the work); the ties are given (YtmdjlaileakbeaaGreatDoorTie.lean); close each card by the builder's one call (the guide's Derived/Test/ToyasCard.lean, 'card_holds'). Laid BY PROGRAM, IN A SANDBOX (cutbox-door.mjs). By AI agents, Wed Nov 11 2026. No macro, syntax, notation, axiom, sorry.
-/
import Derived.Test.YtmdjlaileakbeaaGreatDoorRows
import GoSem.ClaimSeven
namespace Go.Proofs.YtmdjlaileakbeaaGreatDoor
namespace Rows

/-- THE TIED CARD OF 'tillerlaw09.StepFeeds'. -/
def stepFeedsCard : Claim7 := { stood := { row := stepFeedsRow, standIns := [], harness := (true, "cb7d9f54cb390a717aedb45d0daca71b2b9ba90291eb338af08ebfb81f79333a"), looks := false }, kinds := [], alts := [], laidByText := true, laidKinds := [.data], laidTests := true, laidLooks := .later }
def StepFeedsCardSaid : Prop := Claim7.holds Tryz.pinned (.plain (OpenSpec.ofChange stepFeedsSpec)) stepFeedsCard

/-- THE SECOND FORM's CARD OF 'tillerlaw09.StepFeeds'. -/
def stepFeedsUptoCard : Claim7 := { stood := { row := stepFeedsUptoRow, standIns := [], harness := (true, "cb7d9f54cb390a717aedb45d0daca71b2b9ba90291eb338af08ebfb81f79333a"), looks := false }, kinds := [], alts := [], laidByText := true, laidKinds := [.data], laidTests := true, laidLooks := .later }
def StepFeedsUptoCardSaid : Prop := Claim7.holds Tryz.pinned (.plain (OpenSpec.upto stepFeedsSpec)) stepFeedsUptoCard
end Rows
end Go.Proofs.YtmdjlaileakbeaaGreatDoor

/-
  DERIVED. GIVEN WITH THE SEED: THE CARDS: each row of YtmocofkcaamnoabDoorRows.lean that lists a variable, with what it lists TIED to the program's text (the seventh form; the later family's looks); each row that meets fmt, with fmt's text TOLD by the authors' own Lean function (tested against real Go, not proved from fmt's source: count such statements apart). THE CARD IS WHAT COUNTS. Prove the row's statement (the work); the ties are given (YtmocofkcaamnoabDoorTie.lean); close each card by the builder's one call (the guide's Derived/Test/ToyasCard.lean, 'card_holds'). Laid BY PROGRAM, IN A SANDBOX (cutbox-door.mjs). By AI agents, Wed Nov 11 2026. No macro, syntax, notation, axiom, sorry.
-/
import Derived.Test.YtmocofkcaamnoabDoorRows
import GoSem.ClaimSeven
namespace Go.Proofs.YtmocofkcaamnoabDoor
namespace Rows

/-- THE TIED CARD OF 'tillerlaw05.SoftSize'. -/
def softSizeCard : Claim7 := { stood := { row := softSizeRow, standIns := [], harness := (true, "57f61f9457e378f657ee55ddba1d71647f2daccd2d044bd8fd159250bcd82e77"), looks := false }, kinds := [], alts := [], laidByText := true, laidKinds := [.data], laidTests := true, laidLooks := .later }
def SoftSizeCardSaid : Prop := Claim7.holds Tryd.pinned (.plain (OpenSpec.ofChange softSizeSpec)) softSizeCard

/-- THE SECOND FORM's CARD OF 'tillerlaw05.SoftSize'. -/
def softSizeUptoCard : Claim7 := { stood := { row := softSizeUptoRow, standIns := [], harness := (true, "57f61f9457e378f657ee55ddba1d71647f2daccd2d044bd8fd159250bcd82e77"), looks := false }, kinds := [], alts := [], laidByText := true, laidKinds := [.data], laidTests := true, laidLooks := .later }
def SoftSizeUptoCardSaid : Prop := Claim7.holds Tryd.pinned (.plain (OpenSpec.upto softSizeSpec)) softSizeUptoCard
end Rows
end Go.Proofs.YtmocofkcaamnoabDoor

/-
  DERIVED. GIVEN WITH THE SEED: THE CARDS: each row of YtdopcagikcdfcaaDoorRows.lean that lists a variable, with what it lists TIED to the program's text (the seventh form; the later family's looks); each row that meets fmt, with fmt's text TOLD by the authors' own Lean function (tested against real Go, not proved from fmt's source: count such statements apart). THE CARD IS WHAT COUNTS. Prove the row's statement (the work); the ties are given (YtdopcagikcdfcaaDoorTie.lean); close each card by the builder's one call (the guide's Derived/Test/ToyasCard.lean, 'card_holds'). Laid BY PROGRAM, IN A SANDBOX (cutbox-door.mjs). By AI agents, Wed Nov 11 2026. No macro, syntax, notation, axiom, sorry.
-/
import Derived.Test.YtdopcagikcdfcaaDoorRows
import GoSem.ClaimSeven
namespace Go.Proofs.YtdopcagikcdfcaaDoor
namespace Rows

/-- THE TIED CARD OF 'tillertop.TillerTransfer'. -/
def tillerTransferCard : Claim7 := { stood := { row := tillerTransferRow, standIns := [], harness := (true, "6def01e30a8aea5b474c04de68803f257178f8cc0c3b3e32c8af66d511dc3761"), looks := false }, kinds := [], alts := [], laidByText := true, laidKinds := [.data], laidTests := true, laidLooks := .later }
def TillerTransferCardSaid : Prop := Claim7.holds Tryd.pinned (.plain (OpenSpec.ofChange tillerTransferSpec)) tillerTransferCard

/-- THE SECOND FORM's CARD OF 'tillertop.TillerTransfer'. -/
def tillerTransferUptoCard : Claim7 := { stood := { row := tillerTransferUptoRow, standIns := [], harness := (true, "6def01e30a8aea5b474c04de68803f257178f8cc0c3b3e32c8af66d511dc3761"), looks := false }, kinds := [], alts := [], laidByText := true, laidKinds := [.data], laidTests := true, laidLooks := .later }
def TillerTransferUptoCardSaid : Prop := Claim7.holds Tryd.pinned (.plain (OpenSpec.upto tillerTransferSpec)) tillerTransferUptoCard
end Rows
end Go.Proofs.YtdopcagikcdfcaaDoor

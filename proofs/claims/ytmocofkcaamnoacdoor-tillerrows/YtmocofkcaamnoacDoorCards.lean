/-
  DERIVED. GIVEN WITH THE SEED: THE CARDS: each row of YtmocofkcaamnoacDoorRows.lean that lists a variable, with what it lists TIED to the program's text (the seventh form; the later family's looks); each row that meets fmt, with fmt's text TOLD by the authors' own Lean function (tested against real Go, not proved from fmt's source: count such statements apart). THE CARD IS WHAT COUNTS. Prove the row's statement (the work); the ties are given (YtmocofkcaamnoacDoorTie.lean); close each card by the builder's one call (the guide's Derived/Test/ToyasCard.lean, 'card_holds'). Laid BY PROGRAM, IN A SANDBOX (cutbox-door.mjs). By AI agents, Wed Nov 11 2026. No macro, syntax, notation, axiom, sorry.
-/
import Derived.Test.YtmocofkcaamnoacDoorRows
import GoSem.ClaimSeven
namespace Go.Proofs.YtmocofkcaamnoacDoor
namespace Rows

/-- THE TIED CARD OF 'tillertop.TillerRows'. -/
def tillerRowsCard : Claim7 := { stood := { row := tillerRowsRow, standIns := [], harness := (true, "9fdfd04f927e56bdceeea20fa8291d9fb998e4869e52bc3c1e840c2239592547"), looks := false }, kinds := [], alts := [], laidByText := true, laidKinds := [.data], laidTests := true, laidLooks := .later }
def TillerRowsCardSaid : Prop := Claim7.holds Tryd.pinned (.plain (OpenSpec.ofChange tillerRowsSpec)) tillerRowsCard

/-- THE SECOND FORM's CARD OF 'tillertop.TillerRows'. -/
def tillerRowsUptoCard : Claim7 := { stood := { row := tillerRowsUptoRow, standIns := [], harness := (true, "9fdfd04f927e56bdceeea20fa8291d9fb998e4869e52bc3c1e840c2239592547"), looks := false }, kinds := [], alts := [], laidByText := true, laidKinds := [.data], laidTests := true, laidLooks := .later }
def TillerRowsUptoCardSaid : Prop := Claim7.holds Tryd.pinned (.plain (OpenSpec.upto tillerRowsSpec)) tillerRowsUptoCard
end Rows
end Go.Proofs.YtmocofkcaamnoacDoor

/-
  DERIVED. GIVEN WITH THE SEED: THE CARDS: each row of YtijjghlfamebaacDoorRows.lean that lists a variable, with what it lists TIED to the program's text (the seventh form; the later family's looks); each row that meets fmt, with fmt's text TOLD by the authors' own Lean function (tested against real Go, not proved from fmt's source: count such statements apart). THE CARD IS WHAT COUNTS. Prove the row's statement (the work); the ties are given (YtijjghlfamebaacDoorTie.lean); close each card by the builder's one call (the guide's Derived/Test/ToyasCard.lean, 'card_holds'). Laid BY PROGRAM, IN A SANDBOX (cutbox-door.mjs). By AI agents, Wed Nov 11 2026. No macro, syntax, notation, axiom, sorry.
-/
import Derived.Test.YtijjghlfamebaacDoorRows
import GoSem.ClaimSeven
namespace Go.Proofs.YtijjghlfamebaacDoor
namespace Rows

/-- THE TIED CARD OF 'tillertop.TillerNumbers'. -/
def tillerNumbersCard : Claim7 := { stood := { row := tillerNumbersRow, standIns := [], harness := (true, "2646bc8ee4e50eb1dedfc71e66e27df57dee2e2d158da2239a1bad1d32cee560"), looks := false }, kinds := [], alts := [], laidByText := true, laidKinds := [.data, .data, .data, .data], laidTests := true, laidLooks := .later }
def TillerNumbersCardSaid : Prop := Claim7.holds Tryd.pinned (.plain (OpenSpec.ofChange tillerNumbersSpec)) tillerNumbersCard

/-- THE SECOND FORM's CARD OF 'tillertop.TillerNumbers'. -/
def tillerNumbersUptoCard : Claim7 := { stood := { row := tillerNumbersUptoRow, standIns := [], harness := (true, "2646bc8ee4e50eb1dedfc71e66e27df57dee2e2d158da2239a1bad1d32cee560"), looks := false }, kinds := [], alts := [], laidByText := true, laidKinds := [.data, .data, .data, .data], laidTests := true, laidLooks := .later }
def TillerNumbersUptoCardSaid : Prop := Claim7.holds Tryd.pinned (.plain (OpenSpec.upto tillerNumbersSpec)) tillerNumbersUptoCard
end Rows
end Go.Proofs.YtijjghlfamebaacDoor

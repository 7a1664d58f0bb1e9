/-
  DERIVED. GIVEN WITH THE SEED: THE CARDS: each row of YtcanjlofnpnhkaaGreatDoorRows.lean that lists a variable, with what it lists TIED to the program's text (the seventh form; the later family's looks); each row that meets fmt, with fmt's text TOLD by the authors' own Lean function (tested against real Go, not proved from fmt's source: count such statements apart). THE CARD IS WHAT COUNTS. Prove the row's statement (the work); the ties are given (YtcanjlofnpnhkaaGreatDoorTie.lean); close each card by the builder's one call (the guide's Derived/Test/ToyasCard.lean, 'card_holds'). Laid BY PROGRAM, IN A SANDBOX (cutbox-door.mjs). By AI agents, Wed Nov 11 2026. No macro, syntax, notation, axiom, sorry.
-/
import Derived.Test.YtcanjlofnpnhkaaGreatDoorRows
import GoSem.ClaimSeven
namespace Go.Proofs.YtcanjlofnpnhkaaGreatDoor
namespace Rows

/-- THE TIED CARD OF 'tillertop.TillerPaged'. -/
def tillerPagedCard : Claim7 := { stood := { row := tillerPagedRow, standIns := [], harness := (true, "99f297051926c5b4068c6991ec6e4b771d79018e7a76ecea41b657c3ffeda621"), looks := false }, kinds := [], alts := [], laidByText := true, laidKinds := [.data], laidTests := true, laidLooks := .later }
def TillerPagedCardSaid : Prop := Claim7.holds Tryz.pinned (.plain (OpenSpec.ofChange tillerPagedSpec)) tillerPagedCard

/-- THE SECOND FORM's CARD OF 'tillertop.TillerPaged'. -/
def tillerPagedUptoCard : Claim7 := { stood := { row := tillerPagedUptoRow, standIns := [], harness := (true, "99f297051926c5b4068c6991ec6e4b771d79018e7a76ecea41b657c3ffeda621"), looks := false }, kinds := [], alts := [], laidByText := true, laidKinds := [.data], laidTests := true, laidLooks := .later }
def TillerPagedUptoCardSaid : Prop := Claim7.holds Tryz.pinned (.plain (OpenSpec.upto tillerPagedSpec)) tillerPagedUptoCard
end Rows
end Go.Proofs.YtcanjlofnpnhkaaGreatDoor

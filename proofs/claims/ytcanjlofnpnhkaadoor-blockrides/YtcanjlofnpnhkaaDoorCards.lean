/-
  DERIVED. GIVEN WITH THE SEED: THE CARDS: each row of YtcanjlofnpnhkaaDoorRows.lean that lists a variable, with what it lists TIED to the program's text (the seventh form; the later family's looks); each row that meets fmt, with fmt's text TOLD by the authors' own Lean function (tested against real Go, not proved from fmt's source: count such statements apart). THE CARD IS WHAT COUNTS. Prove the row's statement (the work); the ties are given (YtcanjlofnpnhkaaDoorTie.lean); close each card by the builder's one call (the guide's Derived/Test/ToyasCard.lean, 'card_holds'). Laid BY PROGRAM, IN A SANDBOX (cutbox-door.mjs). By AI agents, Wed Nov 11 2026. No macro, syntax, notation, axiom, sorry.
-/
import Derived.Test.YtcanjlofnpnhkaaDoorRows
import GoSem.ClaimSeven
namespace Go.Proofs.YtcanjlofnpnhkaaDoor
namespace Rows

/-- THE TIED CARD OF 'tillerlaw11.BlockRides'. -/
def blockRidesCard : Claim7 := { stood := { row := blockRidesRow, standIns := [], harness := (true, "cadaa6e1542cb5f2e9ffa5fc68ed7a10fceb70e4cdf2e65b9d312008de0cb7a9"), looks := false }, kinds := [], alts := [], laidByText := true, laidKinds := [.data], laidTests := true, laidLooks := .later }
def BlockRidesCardSaid : Prop := Claim7.holds Tryd.pinned (.plain (OpenSpec.ofChange blockRidesSpec)) blockRidesCard

/-- THE TIED CARD OF 'tillerlaw11.BlockSizes'. -/
def blockSizesCard : Claim7 := { stood := { row := blockSizesRow, standIns := [], harness := (true, "cadaa6e1542cb5f2e9ffa5fc68ed7a10fceb70e4cdf2e65b9d312008de0cb7a9"), looks := false }, kinds := [], alts := [], laidByText := true, laidKinds := [.data], laidTests := true, laidLooks := .later }
def BlockSizesCardSaid : Prop := Claim7.holds Tryd.pinned (.plain (OpenSpec.ofChange blockSizesSpec)) blockSizesCard

/-- THE SECOND FORM's CARD OF 'tillerlaw11.BlockRides'. -/
def blockRidesUptoCard : Claim7 := { stood := { row := blockRidesUptoRow, standIns := [], harness := (true, "cadaa6e1542cb5f2e9ffa5fc68ed7a10fceb70e4cdf2e65b9d312008de0cb7a9"), looks := false }, kinds := [], alts := [], laidByText := true, laidKinds := [.data], laidTests := true, laidLooks := .later }
def BlockRidesUptoCardSaid : Prop := Claim7.holds Tryd.pinned (.plain (OpenSpec.upto blockRidesSpec)) blockRidesUptoCard

/-- THE SECOND FORM's CARD OF 'tillerlaw11.BlockSizes'. -/
def blockSizesUptoCard : Claim7 := { stood := { row := blockSizesUptoRow, standIns := [], harness := (true, "cadaa6e1542cb5f2e9ffa5fc68ed7a10fceb70e4cdf2e65b9d312008de0cb7a9"), looks := false }, kinds := [], alts := [], laidByText := true, laidKinds := [.data], laidTests := true, laidLooks := .later }
def BlockSizesUptoCardSaid : Prop := Claim7.holds Tryd.pinned (.plain (OpenSpec.upto blockSizesSpec)) blockSizesUptoCard
end Rows
end Go.Proofs.YtcanjlofnpnhkaaDoor

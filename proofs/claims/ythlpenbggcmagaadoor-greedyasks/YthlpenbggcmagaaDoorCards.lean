/-
  DERIVED. GIVEN WITH THE SEED: THE CARDS: each row of YthlpenbggcmagaaDoorRows.lean that lists a variable, with what it lists TIED to the program's text (the seventh form; the later family's looks); each row that meets fmt, with fmt's text TOLD by the authors' own Lean function (tested against real Go, not proved from fmt's source: count such statements apart). THE CARD IS WHAT COUNTS. Prove the row's statement (the work); the ties are given (YthlpenbggcmagaaDoorTie.lean); close each card by the builder's one call (the guide's Derived/Test/ToyasCard.lean, 'card_holds'). Laid BY PROGRAM, IN A SANDBOX (cutbox-door.mjs). By AI agents, Wed Nov 11 2026. No macro, syntax, notation, axiom, sorry.
-/
import Derived.Test.YthlpenbggcmagaaDoorRows
import GoSem.ClaimSeven
namespace Go.Proofs.YthlpenbggcmagaaDoor
namespace Rows

/-- THE TIED CARD OF 'tillerlaw10.GreedyAsks'. -/
def greedyAsksCard : Claim7 := { stood := { row := greedyAsksRow, standIns := [], harness := (true, "09ce2c38ff9bf4d17c793b416d1c3226a1cdcdc98cd4836ca0fd7b4653ec0128"), looks := false }, kinds := [], alts := [], laidByText := true, laidKinds := [.data], laidTests := true, laidLooks := .later }
def GreedyAsksCardSaid : Prop := Claim7.holds Tryd.pinned (.plain (OpenSpec.ofChange greedyAsksSpec)) greedyAsksCard

/-- THE TIED CARD OF 'tillerlaw10.GreedyOver'. -/
def greedyOverCard : Claim7 := { stood := { row := greedyOverRow, standIns := [], harness := (true, "09ce2c38ff9bf4d17c793b416d1c3226a1cdcdc98cd4836ca0fd7b4653ec0128"), looks := false }, kinds := [], alts := [], laidByText := true, laidKinds := [.data], laidTests := true, laidLooks := .later }
def GreedyOverCardSaid : Prop := Claim7.holds Tryd.pinned (.plain (OpenSpec.ofChange greedyOverSpec)) greedyOverCard

/-- THE SECOND FORM's CARD OF 'tillerlaw10.GreedyAsks'. -/
def greedyAsksUptoCard : Claim7 := { stood := { row := greedyAsksUptoRow, standIns := [], harness := (true, "09ce2c38ff9bf4d17c793b416d1c3226a1cdcdc98cd4836ca0fd7b4653ec0128"), looks := false }, kinds := [], alts := [], laidByText := true, laidKinds := [.data], laidTests := true, laidLooks := .later }
def GreedyAsksUptoCardSaid : Prop := Claim7.holds Tryd.pinned (.plain (OpenSpec.upto greedyAsksSpec)) greedyAsksUptoCard

/-- THE SECOND FORM's CARD OF 'tillerlaw10.GreedyOver'. -/
def greedyOverUptoCard : Claim7 := { stood := { row := greedyOverUptoRow, standIns := [], harness := (true, "09ce2c38ff9bf4d17c793b416d1c3226a1cdcdc98cd4836ca0fd7b4653ec0128"), looks := false }, kinds := [], alts := [], laidByText := true, laidKinds := [.data], laidTests := true, laidLooks := .later }
def GreedyOverUptoCardSaid : Prop := Claim7.holds Tryd.pinned (.plain (OpenSpec.upto greedyOverSpec)) greedyOverUptoCard
end Rows
end Go.Proofs.YthlpenbggcmagaaDoor

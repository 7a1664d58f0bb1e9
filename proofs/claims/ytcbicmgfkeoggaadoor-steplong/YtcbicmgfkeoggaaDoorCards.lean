/-
  DERIVED. GIVEN WITH THE SEED: THE CARDS: each row of YtcbicmgfkeoggaaDoorRows.lean that lists a variable, with what it lists TIED to the program's text (the seventh form; the later family's looks); each row that meets fmt, with fmt's text TOLD by the authors' own Lean function (tested against real Go, not proved from fmt's source: count such statements apart). THE CARD IS WHAT COUNTS. Prove the row's statement (the work); the ties are given (YtcbicmgfkeoggaaDoorTie.lean); close each card by the builder's one call (the guide's Derived/Test/ToyasCard.lean, 'card_holds'). Laid BY PROGRAM, IN A SANDBOX (cutbox-door.mjs). By AI agents, Wed Nov 11 2026. No macro, syntax, notation, axiom, sorry.
-/
import Derived.Test.YtcbicmgfkeoggaaDoorRows
import GoSem.ClaimSeven
namespace Go.Proofs.YtcbicmgfkeoggaaDoor
namespace Rows

/-- THE TIED CARD OF 'tillerlaw09.StepFull'. -/
def stepFullCard : Claim7 := { stood := { row := stepFullRow, standIns := [], harness := (true, "fbe80f2afbd55e80cd452f0a326efe67d4b9912c148d55caef3d482b5b67f082"), looks := false }, kinds := [], alts := [], laidByText := true, laidKinds := [.data], laidTests := true, laidLooks := .later }
def StepFullCardSaid : Prop := Claim7.holds Tryd.pinned (.plain (OpenSpec.ofChange stepFullSpec)) stepFullCard

/-- THE TIED CARD OF 'tillerlaw09.StepKeeps'. -/
def stepKeepsCard : Claim7 := { stood := { row := stepKeepsRow, standIns := [], harness := (true, "fbe80f2afbd55e80cd452f0a326efe67d4b9912c148d55caef3d482b5b67f082"), looks := false }, kinds := [], alts := [], laidByText := true, laidKinds := [.data], laidTests := true, laidLooks := .later }
def StepKeepsCardSaid : Prop := Claim7.holds Tryd.pinned (.plain (OpenSpec.ofChange stepKeepsSpec)) stepKeepsCard

/-- THE TIED CARD OF 'tillerlaw09.StepLong'. -/
def stepLongCard : Claim7 := { stood := { row := stepLongRow, standIns := [], harness := (true, "fbe80f2afbd55e80cd452f0a326efe67d4b9912c148d55caef3d482b5b67f082"), looks := false }, kinds := [], alts := [], laidByText := true, laidKinds := [.data], laidTests := true, laidLooks := .later }
def StepLongCardSaid : Prop := Claim7.holds Tryd.pinned (.plain (OpenSpec.ofChange stepLongSpec)) stepLongCard

/-- THE TIED CARD OF 'tillerlaw09.StepRefuses'. -/
def stepRefusesCard : Claim7 := { stood := { row := stepRefusesRow, standIns := [], harness := (true, "fbe80f2afbd55e80cd452f0a326efe67d4b9912c148d55caef3d482b5b67f082"), looks := false }, kinds := [], alts := [], laidByText := true, laidKinds := [.data], laidTests := true, laidLooks := .later }
def StepRefusesCardSaid : Prop := Claim7.holds Tryd.pinned (.plain (OpenSpec.ofChange stepRefusesSpec)) stepRefusesCard

/-- THE TIED CARD OF 'tillerlaw10.GreedyParts'. -/
def greedyPartsCard : Claim7 := { stood := { row := greedyPartsRow, standIns := [], harness := (true, "fbe80f2afbd55e80cd452f0a326efe67d4b9912c148d55caef3d482b5b67f082"), looks := false }, kinds := [], alts := [], laidByText := true, laidKinds := [.data], laidTests := true, laidLooks := .later }
def GreedyPartsCardSaid : Prop := Claim7.holds Tryd.pinned (.plain (OpenSpec.ofChange greedyPartsSpec)) greedyPartsCard

/-- THE SECOND FORM's CARD OF 'tillerlaw09.StepFull'. -/
def stepFullUptoCard : Claim7 := { stood := { row := stepFullUptoRow, standIns := [], harness := (true, "fbe80f2afbd55e80cd452f0a326efe67d4b9912c148d55caef3d482b5b67f082"), looks := false }, kinds := [], alts := [], laidByText := true, laidKinds := [.data], laidTests := true, laidLooks := .later }
def StepFullUptoCardSaid : Prop := Claim7.holds Tryd.pinned (.plain (OpenSpec.upto stepFullSpec)) stepFullUptoCard

/-- THE SECOND FORM's CARD OF 'tillerlaw09.StepKeeps'. -/
def stepKeepsUptoCard : Claim7 := { stood := { row := stepKeepsUptoRow, standIns := [], harness := (true, "fbe80f2afbd55e80cd452f0a326efe67d4b9912c148d55caef3d482b5b67f082"), looks := false }, kinds := [], alts := [], laidByText := true, laidKinds := [.data], laidTests := true, laidLooks := .later }
def StepKeepsUptoCardSaid : Prop := Claim7.holds Tryd.pinned (.plain (OpenSpec.upto stepKeepsSpec)) stepKeepsUptoCard

/-- THE SECOND FORM's CARD OF 'tillerlaw09.StepLong'. -/
def stepLongUptoCard : Claim7 := { stood := { row := stepLongUptoRow, standIns := [], harness := (true, "fbe80f2afbd55e80cd452f0a326efe67d4b9912c148d55caef3d482b5b67f082"), looks := false }, kinds := [], alts := [], laidByText := true, laidKinds := [.data], laidTests := true, laidLooks := .later }
def StepLongUptoCardSaid : Prop := Claim7.holds Tryd.pinned (.plain (OpenSpec.upto stepLongSpec)) stepLongUptoCard

/-- THE SECOND FORM's CARD OF 'tillerlaw09.StepRefuses'. -/
def stepRefusesUptoCard : Claim7 := { stood := { row := stepRefusesUptoRow, standIns := [], harness := (true, "fbe80f2afbd55e80cd452f0a326efe67d4b9912c148d55caef3d482b5b67f082"), looks := false }, kinds := [], alts := [], laidByText := true, laidKinds := [.data], laidTests := true, laidLooks := .later }
def StepRefusesUptoCardSaid : Prop := Claim7.holds Tryd.pinned (.plain (OpenSpec.upto stepRefusesSpec)) stepRefusesUptoCard

/-- THE SECOND FORM's CARD OF 'tillerlaw10.GreedyParts'. -/
def greedyPartsUptoCard : Claim7 := { stood := { row := greedyPartsUptoRow, standIns := [], harness := (true, "fbe80f2afbd55e80cd452f0a326efe67d4b9912c148d55caef3d482b5b67f082"), looks := false }, kinds := [], alts := [], laidByText := true, laidKinds := [.data], laidTests := true, laidLooks := .later }
def GreedyPartsUptoCardSaid : Prop := Claim7.holds Tryd.pinned (.plain (OpenSpec.upto greedyPartsSpec)) greedyPartsUptoCard
end Rows
end Go.Proofs.YtcbicmgfkeoggaaDoor

/-
  DERIVED. GIVEN WITH THE SEED: THE CARDS: each row of YtijjghlfamebaabDoorRows.lean that lists a variable, with what it lists TIED to the program's text (the seventh form; the later family's looks); each row that meets fmt, with fmt's text TOLD by the authors' own Lean function (tested against real Go, not proved from fmt's source: count such statements apart). THE CARD IS WHAT COUNTS. Prove the row's statement (the work); the ties are given (YtijjghlfamebaabDoorTie.lean); close each card by the builder's one call (the guide's Derived/Test/ToyasCard.lean, 'card_holds'). Laid BY PROGRAM, IN A SANDBOX (cutbox-door.mjs). By AI agents, Wed Nov 11 2026. No macro, syntax, notation, axiom, sorry.
-/
import Derived.Test.YtijjghlfamebaabDoorRows
import GoSem.ClaimSeven
namespace Go.Proofs.YtijjghlfamebaabDoor
namespace Rows

/-- THE TIED CARD OF 'tillerlaw01.FixSpelled'. -/
def fixSpelledCard : Claim7 := { stood := { row := fixSpelledRow, standIns := [], harness := (true, "6ca6bb1ae5bca5777d61f6e9604def82230ca140cbb37343b43b66df99de17d3"), looks := false }, kinds := [], alts := [], laidByText := true, laidKinds := [.data, .data, .data], laidTests := true, laidLooks := .later }
def FixSpelledCardSaid : Prop := Claim7.holds Tryd.pinned (.plain (OpenSpec.ofChange fixSpelledSpec)) fixSpelledCard

/-- THE TIED CARD OF 'tillerlaw02.CurvePows'. -/
def curvePowsCard : Claim7 := { stood := { row := curvePowsRow, standIns := [], harness := (true, "6ca6bb1ae5bca5777d61f6e9604def82230ca140cbb37343b43b66df99de17d3"), looks := false }, kinds := [], alts := [], laidByText := true, laidKinds := [.data], laidTests := true, laidLooks := .later }
def CurvePowsCardSaid : Prop := Claim7.holds Tryd.pinned (.plain (OpenSpec.ofChange curvePowsSpec)) curvePowsCard

/-- THE TIED CARD OF 'tillerlaw02.CurveRoots'. -/
def curveRootsCard : Claim7 := { stood := { row := curveRootsRow, standIns := [], harness := (true, "6ca6bb1ae5bca5777d61f6e9604def82230ca140cbb37343b43b66df99de17d3"), looks := false }, kinds := [], alts := [], laidByText := true, laidKinds := [.data], laidTests := true, laidLooks := .later }
def CurveRootsCardSaid : Prop := Claim7.holds Tryd.pinned (.plain (OpenSpec.ofChange curveRootsSpec)) curveRootsCard

/-- THE TIED CARD OF 'tillerlaw02.CurveShapes'. -/
def curveShapesCard : Claim7 := { stood := { row := curveShapesRow, standIns := [], harness := (true, "6ca6bb1ae5bca5777d61f6e9604def82230ca140cbb37343b43b66df99de17d3"), looks := false }, kinds := [], alts := [], laidByText := true, laidKinds := [.data], laidTests := true, laidLooks := .later }
def CurveShapesCardSaid : Prop := Claim7.holds Tryd.pinned (.plain (OpenSpec.ofChange curveShapesSpec)) curveShapesCard

/-- THE TIED CARD OF 'tillerlaw02.CurveSteps'. -/
def curveStepsCard : Claim7 := { stood := { row := curveStepsRow, standIns := [], harness := (true, "6ca6bb1ae5bca5777d61f6e9604def82230ca140cbb37343b43b66df99de17d3"), looks := false }, kinds := [], alts := [], laidByText := true, laidKinds := [.data], laidTests := true, laidLooks := .later }
def CurveStepsCardSaid : Prop := Claim7.holds Tryd.pinned (.plain (OpenSpec.ofChange curveStepsSpec)) curveStepsCard

/-- THE TIED CARD OF 'tillerlaw02.CurveNear'. -/
def curveNearCard : Claim7 := { stood := { row := curveNearRow, standIns := [], harness := (true, "6ca6bb1ae5bca5777d61f6e9604def82230ca140cbb37343b43b66df99de17d3"), looks := false }, kinds := [], alts := [], laidByText := true, laidKinds := [.data], laidTests := true, laidLooks := .later }
def CurveNearCardSaid : Prop := Claim7.holds Tryd.pinned (.plain (OpenSpec.ofChange curveNearSpec)) curveNearCard

/-- THE SECOND FORM's CARD OF 'tillerlaw01.FixSpelled'. -/
def fixSpelledUptoCard : Claim7 := { stood := { row := fixSpelledUptoRow, standIns := [], harness := (true, "6ca6bb1ae5bca5777d61f6e9604def82230ca140cbb37343b43b66df99de17d3"), looks := false }, kinds := [], alts := [], laidByText := true, laidKinds := [.data, .data, .data], laidTests := true, laidLooks := .later }
def FixSpelledUptoCardSaid : Prop := Claim7.holds Tryd.pinned (.plain (OpenSpec.upto fixSpelledSpec)) fixSpelledUptoCard

/-- THE SECOND FORM's CARD OF 'tillerlaw02.CurvePows'. -/
def curvePowsUptoCard : Claim7 := { stood := { row := curvePowsUptoRow, standIns := [], harness := (true, "6ca6bb1ae5bca5777d61f6e9604def82230ca140cbb37343b43b66df99de17d3"), looks := false }, kinds := [], alts := [], laidByText := true, laidKinds := [.data], laidTests := true, laidLooks := .later }
def CurvePowsUptoCardSaid : Prop := Claim7.holds Tryd.pinned (.plain (OpenSpec.upto curvePowsSpec)) curvePowsUptoCard

/-- THE SECOND FORM's CARD OF 'tillerlaw02.CurveRoots'. -/
def curveRootsUptoCard : Claim7 := { stood := { row := curveRootsUptoRow, standIns := [], harness := (true, "6ca6bb1ae5bca5777d61f6e9604def82230ca140cbb37343b43b66df99de17d3"), looks := false }, kinds := [], alts := [], laidByText := true, laidKinds := [.data], laidTests := true, laidLooks := .later }
def CurveRootsUptoCardSaid : Prop := Claim7.holds Tryd.pinned (.plain (OpenSpec.upto curveRootsSpec)) curveRootsUptoCard

/-- THE SECOND FORM's CARD OF 'tillerlaw02.CurveShapes'. -/
def curveShapesUptoCard : Claim7 := { stood := { row := curveShapesUptoRow, standIns := [], harness := (true, "6ca6bb1ae5bca5777d61f6e9604def82230ca140cbb37343b43b66df99de17d3"), looks := false }, kinds := [], alts := [], laidByText := true, laidKinds := [.data], laidTests := true, laidLooks := .later }
def CurveShapesUptoCardSaid : Prop := Claim7.holds Tryd.pinned (.plain (OpenSpec.upto curveShapesSpec)) curveShapesUptoCard

/-- THE SECOND FORM's CARD OF 'tillerlaw02.CurveSteps'. -/
def curveStepsUptoCard : Claim7 := { stood := { row := curveStepsUptoRow, standIns := [], harness := (true, "6ca6bb1ae5bca5777d61f6e9604def82230ca140cbb37343b43b66df99de17d3"), looks := false }, kinds := [], alts := [], laidByText := true, laidKinds := [.data], laidTests := true, laidLooks := .later }
def CurveStepsUptoCardSaid : Prop := Claim7.holds Tryd.pinned (.plain (OpenSpec.upto curveStepsSpec)) curveStepsUptoCard

/-- THE SECOND FORM's CARD OF 'tillerlaw02.CurveNear'. -/
def curveNearUptoCard : Claim7 := { stood := { row := curveNearUptoRow, standIns := [], harness := (true, "6ca6bb1ae5bca5777d61f6e9604def82230ca140cbb37343b43b66df99de17d3"), looks := false }, kinds := [], alts := [], laidByText := true, laidKinds := [.data], laidTests := true, laidLooks := .later }
def CurveNearUptoCardSaid : Prop := Claim7.holds Tryd.pinned (.plain (OpenSpec.upto curveNearSpec)) curveNearUptoCard
end Rows
end Go.Proofs.YtijjghlfamebaabDoor

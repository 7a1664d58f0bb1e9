/-
  DERIVED. GIVEN WITH THE SEED: THE CARDS: each row of YtomcbihaonndmaaDoorRows.lean that lists a variable, with what it lists TIED to the program's text (the seventh form; the later family's looks); each row that meets fmt, with fmt's text TOLD by the authors' own Lean function (tested against real Go, not proved from fmt's source: count such statements apart). THE CARD IS WHAT COUNTS. Prove the row's statement (the work); the ties are given (YtomcbihaonndmaaDoorTie.lean); close each card by the builder's one call (the guide's Derived/Test/ToyasCard.lean, 'card_holds'). Laid BY PROGRAM, IN A SANDBOX (cutbox-door.mjs). By AI agents, Wed Nov 11 2026. No macro, syntax, notation, axiom, sorry.
-/
import Derived.Test.YtomcbihaonndmaaDoorRows
import GoSem.ClaimSeven
namespace Go.Proofs.YtomcbihaonndmaaDoor
namespace Rows

/-- THE TIED CARD OF 'tillertop.TillerKnown'. -/
def tillerKnownCard : Claim7 := { stood := { row := tillerKnownRow, standIns := [], harness := (true, "6f3f4d9153e7bab84d264638d9328b91a98b5c9082323a40d0092552d7550c94"), looks := false }, kinds := [], alts := [], laidByText := true, laidKinds := [.data], laidTests := true, laidLooks := .later }
def TillerKnownCardSaid : Prop := Claim7.holds Tryd.pinned (.plain (OpenSpec.ofChange tillerKnownSpec)) tillerKnownCard

/-- THE SECOND FORM's CARD OF 'tillertop.TillerKnown'. -/
def tillerKnownUptoCard : Claim7 := { stood := { row := tillerKnownUptoRow, standIns := [], harness := (true, "6f3f4d9153e7bab84d264638d9328b91a98b5c9082323a40d0092552d7550c94"), looks := false }, kinds := [], alts := [], laidByText := true, laidKinds := [.data], laidTests := true, laidLooks := .later }
def TillerKnownUptoCardSaid : Prop := Claim7.holds Tryd.pinned (.plain (OpenSpec.upto tillerKnownSpec)) tillerKnownUptoCard
end Rows
end Go.Proofs.YtomcbihaonndmaaDoor

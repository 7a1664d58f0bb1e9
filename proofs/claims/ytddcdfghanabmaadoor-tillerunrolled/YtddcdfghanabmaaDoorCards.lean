/-
  DERIVED. GIVEN WITH THE SEED: THE CARDS: each row of YtddcdfghanabmaaDoorRows.lean that lists a variable, with what it lists TIED to the program's text (the seventh form; the later family's looks); each row that meets fmt, with fmt's text TOLD by the authors' own Lean function (tested against real Go, not proved from fmt's source: count such statements apart). THE CARD IS WHAT COUNTS. Prove the row's statement (the work); the ties are given (YtddcdfghanabmaaDoorTie.lean); close each card by the builder's one call (the guide's Derived/Test/ToyasCard.lean, 'card_holds'). Laid BY PROGRAM, IN A SANDBOX (cutbox-door.mjs). By AI agents, Wed Nov 11 2026. No macro, syntax, notation, axiom, sorry.
-/
import Derived.Test.YtddcdfghanabmaaDoorRows
import GoSem.ClaimSeven
namespace Go.Proofs.YtddcdfghanabmaaDoor
namespace Rows

/-- THE TIED CARD OF 'tillertop.TillerUnrolled'. -/
def tillerUnrolledCard : Claim7 := { stood := { row := tillerUnrolledRow, standIns := [], harness := (true, "b70afbe0657ad3dd9956a1d44afccb1d89af0eda139c1e36190672dc2379ff18"), looks := false }, kinds := [], alts := [], laidByText := true, laidKinds := [.data], laidTests := true, laidLooks := .later }
def TillerUnrolledCardSaid : Prop := Claim7.holds Tryd.pinned (.plain (OpenSpec.ofChange tillerUnrolledSpec)) tillerUnrolledCard

/-- THE SECOND FORM's CARD OF 'tillertop.TillerUnrolled'. -/
def tillerUnrolledUptoCard : Claim7 := { stood := { row := tillerUnrolledUptoRow, standIns := [], harness := (true, "b70afbe0657ad3dd9956a1d44afccb1d89af0eda139c1e36190672dc2379ff18"), looks := false }, kinds := [], alts := [], laidByText := true, laidKinds := [.data], laidTests := true, laidLooks := .later }
def TillerUnrolledUptoCardSaid : Prop := Claim7.holds Tryd.pinned (.plain (OpenSpec.upto tillerUnrolledSpec)) tillerUnrolledUptoCard
end Rows
end Go.Proofs.YtddcdfghanabmaaDoor

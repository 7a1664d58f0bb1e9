/-
  DERIVED. GIVEN WITH THE SEED: THE CARDS: each row of YtplflpkmcoojmaaDoorRows.lean that lists a variable, with what it lists TIED to the program's text (the seventh form; the later family's looks); each row that meets fmt, with fmt's text TOLD by the authors' own Lean function (tested against real Go, not proved from fmt's source: count such statements apart). THE CARD IS WHAT COUNTS. Prove the row's statement (the work); the ties are given (YtplflpkmcoojmaaDoorTie.lean); close each card by the builder's one call (the guide's Derived/Test/ToyasCard.lean, 'card_holds'). Laid BY PROGRAM, IN A SANDBOX (cutbox-door.mjs). By AI agents, Wed Nov 11 2026. No macro, syntax, notation, axiom, sorry.
-/
import Derived.Test.YtplflpkmcoojmaaDoorRows
import GoSem.ClaimSeven
namespace Go.Proofs.YtplflpkmcoojmaaDoor
namespace Rows

/-- THE TIED CARD OF 'tillerlaw01.FixSpelled'. -/
def fixSpelledCard : Claim7 := { stood := { row := fixSpelledRow, standIns := [], harness := (true, "98f97ce15558fad1302de69bc313ccaf4ff6fdf74542e70d9adcbac8075451ca"), looks := false }, kinds := [], alts := [], laidByText := true, laidKinds := [.data, .data, .data], laidTests := true, laidLooks := .later }
def FixSpelledCardSaid : Prop := Claim7.holds Tryd.pinned (.plain (OpenSpec.ofChange fixSpelledSpec)) fixSpelledCard

/-- THE SECOND FORM's CARD OF 'tillerlaw01.FixSpelled'. -/
def fixSpelledUptoCard : Claim7 := { stood := { row := fixSpelledUptoRow, standIns := [], harness := (true, "98f97ce15558fad1302de69bc313ccaf4ff6fdf74542e70d9adcbac8075451ca"), looks := false }, kinds := [], alts := [], laidByText := true, laidKinds := [.data, .data, .data], laidTests := true, laidLooks := .later }
def FixSpelledUptoCardSaid : Prop := Claim7.holds Tryd.pinned (.plain (OpenSpec.upto fixSpelledSpec)) fixSpelledUptoCard
end Rows
end Go.Proofs.YtplflpkmcoojmaaDoor

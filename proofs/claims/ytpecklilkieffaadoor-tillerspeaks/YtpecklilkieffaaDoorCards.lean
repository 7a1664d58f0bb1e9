/-
  DERIVED. GIVEN WITH THE SEED: THE CARDS: each row of YtpecklilkieffaaDoorRows.lean that lists a variable, with what it lists TIED to the program's text (the seventh form; the later family's looks); each row that meets fmt, with fmt's text TOLD by the authors' own Lean function (tested against real Go, not proved from fmt's source: count such statements apart). THE CARD IS WHAT COUNTS. Prove the row's statement (the work); the ties are given (YtpecklilkieffaaDoorTie.lean); close each card by the builder's one call (the guide's Derived/Test/ToyasCard.lean, 'card_holds'). Laid BY PROGRAM, IN A SANDBOX (cutbox-door.mjs). By AI agents, Wed Nov 11 2026. No macro, syntax, notation, axiom, sorry.
-/
import Derived.Test.YtpecklilkieffaaDoorRows
import GoSem.ClaimSeven
namespace Go.Proofs.YtpecklilkieffaaDoor
namespace Rows

/-- THE TIED CARD OF 'tillertop.TillerSpeaks'. -/
def tillerSpeaksCard : Claim7 := { stood := { row := tillerSpeaksRow, standIns := [], harness := (true, "415fe453fbd6bd848d33b2f31ff04260c502ee7440c3eb9a2e9b5ff10b16f54a"), looks := false }, kinds := [], alts := [], laidByText := true, laidKinds := [.data], laidTests := true, laidLooks := .later }
def TillerSpeaksCardSaid : Prop := Claim7.holds Tryd.pinned (.plain (OpenSpec.ofChange tillerSpeaksSpec)) tillerSpeaksCard

/-- THE SECOND FORM's CARD OF 'tillertop.TillerSpeaks'. -/
def tillerSpeaksUptoCard : Claim7 := { stood := { row := tillerSpeaksUptoRow, standIns := [], harness := (true, "415fe453fbd6bd848d33b2f31ff04260c502ee7440c3eb9a2e9b5ff10b16f54a"), looks := false }, kinds := [], alts := [], laidByText := true, laidKinds := [.data], laidTests := true, laidLooks := .later }
def TillerSpeaksUptoCardSaid : Prop := Claim7.holds Tryd.pinned (.plain (OpenSpec.upto tillerSpeaksSpec)) tillerSpeaksUptoCard
end Rows
end Go.Proofs.YtpecklilkieffaaDoor

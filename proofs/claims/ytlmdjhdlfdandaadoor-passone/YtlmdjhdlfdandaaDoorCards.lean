/-
  DERIVED. GIVEN WITH THE SEED: THE CARDS: each row of YtlmdjhdlfdandaaDoorRows.lean that lists a variable, with what it lists TIED to the program's text (the seventh form; the later family's looks); each row that meets fmt, with fmt's text TOLD by the authors' own Lean function (tested against real Go, not proved from fmt's source: count such statements apart). THE CARD IS WHAT COUNTS. Prove the row's statement (the work); the ties are given (YtlmdjhdlfdandaaDoorTie.lean); close each card by the builder's one call (the guide's Derived/Test/ToyasCard.lean, 'card_holds'). Laid BY PROGRAM, IN A SANDBOX (cutbox-door.mjs). By AI agents, Wed Nov 11 2026. No macro, syntax, notation, axiom, sorry.
-/
import Derived.Test.YtlmdjhdlfdandaaDoorRows
import GoSem.ClaimSeven
namespace Go.Proofs.YtlmdjhdlfdandaaDoor
namespace Rows

/-- THE TIED CARD OF 'tillerlaw08.PassOne'. -/
def passOneCard : Claim7 := { stood := { row := passOneRow, standIns := [], harness := (true, "32f124cfbdf71112324306fe0b06efce740a7303e4ab29f0e479723d69000f45"), looks := false }, kinds := [], alts := [], laidByText := true, laidKinds := [.data], laidTests := true, laidLooks := .later }
def PassOneCardSaid : Prop := Claim7.holds Tryd.pinned (.plain (OpenSpec.ofChange passOneSpec)) passOneCard

/-- THE TIED CARD OF 'tillerlaw08.PassBegins'. -/
def passBeginsCard : Claim7 := { stood := { row := passBeginsRow, standIns := [], harness := (true, "32f124cfbdf71112324306fe0b06efce740a7303e4ab29f0e479723d69000f45"), looks := false }, kinds := [], alts := [], laidByText := true, laidKinds := [.data], laidTests := true, laidLooks := .later }
def PassBeginsCardSaid : Prop := Claim7.holds Tryd.pinned (.plain (OpenSpec.ofChange passBeginsSpec)) passBeginsCard

/-- THE TIED CARD OF 'tillerlaw08.PassKeeps'. -/
def passKeepsCard : Claim7 := { stood := { row := passKeepsRow, standIns := [], harness := (true, "32f124cfbdf71112324306fe0b06efce740a7303e4ab29f0e479723d69000f45"), looks := false }, kinds := [], alts := [], laidByText := true, laidKinds := [.data], laidTests := true, laidLooks := .later }
def PassKeepsCardSaid : Prop := Claim7.holds Tryd.pinned (.plain (OpenSpec.ofChange passKeepsSpec)) passKeepsCard

/-- THE SECOND FORM's CARD OF 'tillerlaw08.PassOne'. -/
def passOneUptoCard : Claim7 := { stood := { row := passOneUptoRow, standIns := [], harness := (true, "32f124cfbdf71112324306fe0b06efce740a7303e4ab29f0e479723d69000f45"), looks := false }, kinds := [], alts := [], laidByText := true, laidKinds := [.data], laidTests := true, laidLooks := .later }
def PassOneUptoCardSaid : Prop := Claim7.holds Tryd.pinned (.plain (OpenSpec.upto passOneSpec)) passOneUptoCard

/-- THE SECOND FORM's CARD OF 'tillerlaw08.PassBegins'. -/
def passBeginsUptoCard : Claim7 := { stood := { row := passBeginsUptoRow, standIns := [], harness := (true, "32f124cfbdf71112324306fe0b06efce740a7303e4ab29f0e479723d69000f45"), looks := false }, kinds := [], alts := [], laidByText := true, laidKinds := [.data], laidTests := true, laidLooks := .later }
def PassBeginsUptoCardSaid : Prop := Claim7.holds Tryd.pinned (.plain (OpenSpec.upto passBeginsSpec)) passBeginsUptoCard

/-- THE SECOND FORM's CARD OF 'tillerlaw08.PassKeeps'. -/
def passKeepsUptoCard : Claim7 := { stood := { row := passKeepsUptoRow, standIns := [], harness := (true, "32f124cfbdf71112324306fe0b06efce740a7303e4ab29f0e479723d69000f45"), looks := false }, kinds := [], alts := [], laidByText := true, laidKinds := [.data], laidTests := true, laidLooks := .later }
def PassKeepsUptoCardSaid : Prop := Claim7.holds Tryd.pinned (.plain (OpenSpec.upto passKeepsSpec)) passKeepsUptoCard
end Rows
end Go.Proofs.YtlmdjhdlfdandaaDoor

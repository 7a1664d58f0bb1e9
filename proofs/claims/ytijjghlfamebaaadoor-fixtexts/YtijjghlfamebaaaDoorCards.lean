/-
  DERIVED. GIVEN WITH THE SEED: THE CARDS: each row of YtijjghlfamebaaaDoorRows.lean that lists a variable, with what it lists TIED to the program's text (the seventh form; the later family's looks); each row that meets fmt, with fmt's text TOLD by the authors' own Lean function (tested against real Go, not proved from fmt's source: count such statements apart). THE CARD IS WHAT COUNTS. Prove the row's statement (the work); the ties are given (YtijjghlfamebaaaDoorTie.lean); close each card by the builder's one call (the guide's Derived/Test/ToyasCard.lean, 'card_holds'). Laid BY PROGRAM, IN A SANDBOX (cutbox-door.mjs). By AI agents, Wed Nov 11 2026. No macro, syntax, notation, axiom, sorry.
-/
import Derived.Test.YtijjghlfamebaaaDoorRows
import GoSem.ClaimSeven
namespace Go.Proofs.YtijjghlfamebaaaDoor
namespace Rows

/-- THE TIED CARD OF 'tillerlaw01.FixSums'. -/
def fixSumsCard : Claim7 := { stood := { row := fixSumsRow, standIns := [], harness := (true, "226f48ed341d058059e276b51ed32fcf405e6882d40d563a3bece4665a074882"), looks := false }, kinds := [], alts := [], laidByText := true, laidKinds := [.data, .data, .data], laidTests := true, laidLooks := .later }
def FixSumsCardSaid : Prop := Claim7.holds Tryd.pinned (.plain (OpenSpec.ofChange fixSumsSpec)) fixSumsCard

/-- THE TIED CARD OF 'tillerlaw01.FixProducts'. -/
def fixProductsCard : Claim7 := { stood := { row := fixProductsRow, standIns := [], harness := (true, "226f48ed341d058059e276b51ed32fcf405e6882d40d563a3bece4665a074882"), looks := false }, kinds := [], alts := [], laidByText := true, laidKinds := [.data, .data, .data], laidTests := true, laidLooks := .later }
def FixProductsCardSaid : Prop := Claim7.holds Tryd.pinned (.plain (OpenSpec.ofChange fixProductsSpec)) fixProductsCard

/-- THE TIED CARD OF 'tillerlaw01.FixTexts'. -/
def fixTextsCard : Claim7 := { stood := { row := fixTextsRow, standIns := [], harness := (true, "226f48ed341d058059e276b51ed32fcf405e6882d40d563a3bece4665a074882"), looks := false }, kinds := [], alts := [], laidByText := true, laidKinds := [.data, .data, .data], laidTests := true, laidLooks := .later }
def FixTextsCardSaid : Prop := Claim7.holds Tryd.pinned (.plain (OpenSpec.ofChange fixTextsSpec)) fixTextsCard

/-- THE TIED CARD OF 'tillerlaw01.FixRing'. -/
def fixRingCard : Claim7 := { stood := { row := fixRingRow, standIns := [], harness := (true, "226f48ed341d058059e276b51ed32fcf405e6882d40d563a3bece4665a074882"), looks := false }, kinds := [], alts := [], laidByText := true, laidKinds := [.data, .data, .data], laidTests := true, laidLooks := .later }
def FixRingCardSaid : Prop := Claim7.holds Tryd.pinned (.plain (OpenSpec.ofChange fixRingSpec)) fixRingCard

/-- THE TIED CARD OF 'tillerlaw01.FixNear'. -/
def fixNearCard : Claim7 := { stood := { row := fixNearRow, standIns := [], harness := (true, "226f48ed341d058059e276b51ed32fcf405e6882d40d563a3bece4665a074882"), looks := false }, kinds := [], alts := [], laidByText := true, laidKinds := [.data, .data, .data], laidTests := true, laidLooks := .later }
def FixNearCardSaid : Prop := Claim7.holds Tryd.pinned (.plain (OpenSpec.ofChange fixNearSpec)) fixNearCard

/-- THE TIED CARD OF 'tillerlaw01.FixOrder'. -/
def fixOrderCard : Claim7 := { stood := { row := fixOrderRow, standIns := [], harness := (true, "226f48ed341d058059e276b51ed32fcf405e6882d40d563a3bece4665a074882"), looks := false }, kinds := [], alts := [], laidByText := true, laidKinds := [.data, .data, .data], laidTests := true, laidLooks := .later }
def FixOrderCardSaid : Prop := Claim7.holds Tryd.pinned (.plain (OpenSpec.ofChange fixOrderSpec)) fixOrderCard

/-- THE SECOND FORM's CARD OF 'tillerlaw01.FixSums'. -/
def fixSumsUptoCard : Claim7 := { stood := { row := fixSumsUptoRow, standIns := [], harness := (true, "226f48ed341d058059e276b51ed32fcf405e6882d40d563a3bece4665a074882"), looks := false }, kinds := [], alts := [], laidByText := true, laidKinds := [.data, .data, .data], laidTests := true, laidLooks := .later }
def FixSumsUptoCardSaid : Prop := Claim7.holds Tryd.pinned (.plain (OpenSpec.upto fixSumsSpec)) fixSumsUptoCard

/-- THE SECOND FORM's CARD OF 'tillerlaw01.FixProducts'. -/
def fixProductsUptoCard : Claim7 := { stood := { row := fixProductsUptoRow, standIns := [], harness := (true, "226f48ed341d058059e276b51ed32fcf405e6882d40d563a3bece4665a074882"), looks := false }, kinds := [], alts := [], laidByText := true, laidKinds := [.data, .data, .data], laidTests := true, laidLooks := .later }
def FixProductsUptoCardSaid : Prop := Claim7.holds Tryd.pinned (.plain (OpenSpec.upto fixProductsSpec)) fixProductsUptoCard

/-- THE SECOND FORM's CARD OF 'tillerlaw01.FixTexts'. -/
def fixTextsUptoCard : Claim7 := { stood := { row := fixTextsUptoRow, standIns := [], harness := (true, "226f48ed341d058059e276b51ed32fcf405e6882d40d563a3bece4665a074882"), looks := false }, kinds := [], alts := [], laidByText := true, laidKinds := [.data, .data, .data], laidTests := true, laidLooks := .later }
def FixTextsUptoCardSaid : Prop := Claim7.holds Tryd.pinned (.plain (OpenSpec.upto fixTextsSpec)) fixTextsUptoCard

/-- THE SECOND FORM's CARD OF 'tillerlaw01.FixRing'. -/
def fixRingUptoCard : Claim7 := { stood := { row := fixRingUptoRow, standIns := [], harness := (true, "226f48ed341d058059e276b51ed32fcf405e6882d40d563a3bece4665a074882"), looks := false }, kinds := [], alts := [], laidByText := true, laidKinds := [.data, .data, .data], laidTests := true, laidLooks := .later }
def FixRingUptoCardSaid : Prop := Claim7.holds Tryd.pinned (.plain (OpenSpec.upto fixRingSpec)) fixRingUptoCard

/-- THE SECOND FORM's CARD OF 'tillerlaw01.FixNear'. -/
def fixNearUptoCard : Claim7 := { stood := { row := fixNearUptoRow, standIns := [], harness := (true, "226f48ed341d058059e276b51ed32fcf405e6882d40d563a3bece4665a074882"), looks := false }, kinds := [], alts := [], laidByText := true, laidKinds := [.data, .data, .data], laidTests := true, laidLooks := .later }
def FixNearUptoCardSaid : Prop := Claim7.holds Tryd.pinned (.plain (OpenSpec.upto fixNearSpec)) fixNearUptoCard

/-- THE SECOND FORM's CARD OF 'tillerlaw01.FixOrder'. -/
def fixOrderUptoCard : Claim7 := { stood := { row := fixOrderUptoRow, standIns := [], harness := (true, "226f48ed341d058059e276b51ed32fcf405e6882d40d563a3bece4665a074882"), looks := false }, kinds := [], alts := [], laidByText := true, laidKinds := [.data, .data, .data], laidTests := true, laidLooks := .later }
def FixOrderUptoCardSaid : Prop := Claim7.holds Tryd.pinned (.plain (OpenSpec.upto fixOrderSpec)) fixOrderUptoCard
end Rows
end Go.Proofs.YtijjghlfamebaaaDoor

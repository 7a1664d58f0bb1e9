/-
  DERIVED. GIVEN WITH THE SEED: THE CARDS: each row of YtmoohnpffohgeaaDoorRows.lean that lists a variable, with what it lists TIED to the program's text (the seventh form; the later family's looks); each row that meets fmt, with fmt's text TOLD by the authors' own Lean function (tested against real Go, not proved from fmt's source: count such statements apart). THE CARD IS WHAT COUNTS. Prove the row's statement (the work); the ties are given (YtmoohnpffohgeaaDoorTie.lean); close each card by the builder's one call (the guide's Derived/Test/ToyasCard.lean, 'card_holds'). Laid BY PROGRAM, IN A SANDBOX (cutbox-door.mjs). By AI agents, Wed Nov 11 2026. No macro, syntax, notation, axiom, sorry.
-/
import Derived.Test.YtmoohnpffohgeaaDoorRows
import GoSem.ClaimSeven
namespace Go.Proofs.YtmoohnpffohgeaaDoor
namespace Rows

/-- THE TIED CARD OF 'tillertop.TillerCarried'. -/
def tillerCarriedCard : Claim7 := { stood := { row := tillerCarriedRow, standIns := [], harness := (true, "8f2166c8a33a6a0f544fcd3d80b78b846bf0859bd9a86d2f8bed42cdefe2bab5"), looks := false }, kinds := [], alts := [], laidByText := true, laidKinds := [.data], laidTests := true, laidLooks := .later }
def TillerCarriedCardSaid : Prop := Claim7.holds Tryd.pinned (.plain (OpenSpec.ofChange tillerCarriedSpec)) tillerCarriedCard

/-- THE SECOND FORM's CARD OF 'tillertop.TillerCarried'. -/
def tillerCarriedUptoCard : Claim7 := { stood := { row := tillerCarriedUptoRow, standIns := [], harness := (true, "8f2166c8a33a6a0f544fcd3d80b78b846bf0859bd9a86d2f8bed42cdefe2bab5"), looks := false }, kinds := [], alts := [], laidByText := true, laidKinds := [.data], laidTests := true, laidLooks := .later }
def TillerCarriedUptoCardSaid : Prop := Claim7.holds Tryd.pinned (.plain (OpenSpec.upto tillerCarriedSpec)) tillerCarriedUptoCard
end Rows
end Go.Proofs.YtmoohnpffohgeaaDoor

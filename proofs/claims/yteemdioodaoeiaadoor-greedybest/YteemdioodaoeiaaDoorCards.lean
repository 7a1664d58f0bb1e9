/-
  DERIVED. GIVEN WITH THE SEED: THE CARDS: each row of YteemdioodaoeiaaDoorRows.lean that lists a variable, with what it lists TIED to the program's text (the seventh form; the later family's looks); each row that meets fmt, with fmt's text TOLD by the authors' own Lean function (tested against real Go, not proved from fmt's source: count such statements apart). THE CARD IS WHAT COUNTS. Prove the row's statement (the work); the ties are given (YteemdioodaoeiaaDoorTie.lean); close each card by the builder's one call (the guide's Derived/Test/ToyasCard.lean, 'card_holds'). Laid BY PROGRAM, IN A SANDBOX (cutbox-door.mjs). By AI agents, Wed Nov 11 2026. No macro, syntax, notation, axiom, sorry.
-/
import Derived.Test.YteemdioodaoeiaaDoorRows
import GoSem.ClaimSeven
namespace Go.Proofs.YteemdioodaoeiaaDoor
namespace Rows

/-- THE TIED CARD OF 'tillerlaw10.GreedyBest'. -/
def greedyBestCard : Claim7 := { stood := { row := greedyBestRow, standIns := [], harness := (true, "36767cbc29991400523b7d5504c026f1ace3ea92126ab5e487c0b84f32640017"), looks := false }, kinds := [], alts := [], laidByText := true, laidKinds := [.data], laidTests := true, laidLooks := .later }
def GreedyBestCardSaid : Prop := Claim7.holds Tryd.pinned (.plain (OpenSpec.ofChange greedyBestSpec)) greedyBestCard

/-- THE TIED CARD OF 'tillertop.TillerSpeaks'. -/
def tillerSpeaksCard : Claim7 := { stood := { row := tillerSpeaksRow, standIns := [], harness := (true, "36767cbc29991400523b7d5504c026f1ace3ea92126ab5e487c0b84f32640017"), looks := false }, kinds := [], alts := [], laidByText := true, laidKinds := [.data], laidTests := true, laidLooks := .later }
def TillerSpeaksCardSaid : Prop := Claim7.holds Tryd.pinned (.plain (OpenSpec.ofChange tillerSpeaksSpec)) tillerSpeaksCard

/-- THE SECOND FORM's CARD OF 'tillerlaw10.GreedyBest'. -/
def greedyBestUptoCard : Claim7 := { stood := { row := greedyBestUptoRow, standIns := [], harness := (true, "36767cbc29991400523b7d5504c026f1ace3ea92126ab5e487c0b84f32640017"), looks := false }, kinds := [], alts := [], laidByText := true, laidKinds := [.data], laidTests := true, laidLooks := .later }
def GreedyBestUptoCardSaid : Prop := Claim7.holds Tryd.pinned (.plain (OpenSpec.upto greedyBestSpec)) greedyBestUptoCard

/-- THE SECOND FORM's CARD OF 'tillertop.TillerSpeaks'. -/
def tillerSpeaksUptoCard : Claim7 := { stood := { row := tillerSpeaksUptoRow, standIns := [], harness := (true, "36767cbc29991400523b7d5504c026f1ace3ea92126ab5e487c0b84f32640017"), looks := false }, kinds := [], alts := [], laidByText := true, laidKinds := [.data], laidTests := true, laidLooks := .later }
def TillerSpeaksUptoCardSaid : Prop := Claim7.holds Tryd.pinned (.plain (OpenSpec.upto tillerSpeaksSpec)) tillerSpeaksUptoCard
end Rows
end Go.Proofs.YteemdioodaoeiaaDoor

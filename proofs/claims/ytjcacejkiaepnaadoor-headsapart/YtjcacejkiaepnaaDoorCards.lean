/-
  DERIVED. GIVEN WITH THE SEED: THE CARDS: each row of YtjcacejkiaepnaaDoorRows.lean that lists a variable, with what it lists TIED to the program's text (the seventh form; the later family's looks); each row that meets fmt, with fmt's text TOLD by the authors' own Lean function (tested against real Go, not proved from fmt's source: count such statements apart). THE CARD IS WHAT COUNTS. Prove the row's statement (the work); the ties are given (YtjcacejkiaepnaaDoorTie.lean); close each card by the builder's one call (the guide's Derived/Test/ToyasCard.lean, 'card_holds'). Laid BY PROGRAM, IN A SANDBOX (cutbox-door.mjs). By AI agents, Wed Nov 11 2026. No macro, syntax, notation, axiom, sorry.
-/
import Derived.Test.YtjcacejkiaepnaaDoorRows
import GoSem.ClaimSeven
namespace Go.Proofs.YtjcacejkiaepnaaDoor
namespace Rows

/-- THE TIED CARD OF 'tillerlaw07.HeadsAttend'. -/
def headsAttendCard : Claim7 := { stood := { row := headsAttendRow, standIns := [], harness := (true, "47ee3c2372cd1b8467e7f38dbec2c61bdfe5525f9c929ea9a734b980556767cd"), looks := false }, kinds := [], alts := [], laidByText := true, laidKinds := [.data], laidTests := true, laidLooks := .later }
def HeadsAttendCardSaid : Prop := Claim7.holds Tryd.pinned (.plain (OpenSpec.ofChange headsAttendSpec)) headsAttendCard

/-- THE TIED CARD OF 'tillerlaw07.HeadsScores'. -/
def headsScoresCard : Claim7 := { stood := { row := headsScoresRow, standIns := [], harness := (true, "47ee3c2372cd1b8467e7f38dbec2c61bdfe5525f9c929ea9a734b980556767cd"), looks := false }, kinds := [], alts := [], laidByText := true, laidKinds := [.data], laidTests := true, laidLooks := .later }
def HeadsScoresCardSaid : Prop := Claim7.holds Tryd.pinned (.plain (OpenSpec.ofChange headsScoresSpec)) headsScoresCard

/-- THE TIED CARD OF 'tillerlaw07.HeadsApart'. -/
def headsApartCard : Claim7 := { stood := { row := headsApartRow, standIns := [], harness := (true, "47ee3c2372cd1b8467e7f38dbec2c61bdfe5525f9c929ea9a734b980556767cd"), looks := false }, kinds := [], alts := [], laidByText := true, laidKinds := [.data], laidTests := true, laidLooks := .later }
def HeadsApartCardSaid : Prop := Claim7.holds Tryd.pinned (.plain (OpenSpec.ofChange headsApartSpec)) headsApartCard

/-- THE TIED CARD OF 'tillerlaw07.HeadsOne'. -/
def headsOneCard : Claim7 := { stood := { row := headsOneRow, standIns := [], harness := (true, "47ee3c2372cd1b8467e7f38dbec2c61bdfe5525f9c929ea9a734b980556767cd"), looks := false }, kinds := [], alts := [], laidByText := true, laidKinds := [.data], laidTests := true, laidLooks := .later }
def HeadsOneCardSaid : Prop := Claim7.holds Tryd.pinned (.plain (OpenSpec.ofChange headsOneSpec)) headsOneCard

/-- THE TIED CARD OF 'tillerlaw07.HeadsTurns'. -/
def headsTurnsCard : Claim7 := { stood := { row := headsTurnsRow, standIns := [], harness := (true, "47ee3c2372cd1b8467e7f38dbec2c61bdfe5525f9c929ea9a734b980556767cd"), looks := false }, kinds := [], alts := [], laidByText := true, laidKinds := [.data], laidTests := true, laidLooks := .later }
def HeadsTurnsCardSaid : Prop := Claim7.holds Tryd.pinned (.plain (OpenSpec.ofChange headsTurnsSpec)) headsTurnsCard

/-- THE TIED CARD OF 'tillerlaw07.HeadsWithin'. -/
def headsWithinCard : Claim7 := { stood := { row := headsWithinRow, standIns := [], harness := (true, "47ee3c2372cd1b8467e7f38dbec2c61bdfe5525f9c929ea9a734b980556767cd"), looks := false }, kinds := [], alts := [], laidByText := true, laidKinds := [.data], laidTests := true, laidLooks := .later }
def HeadsWithinCardSaid : Prop := Claim7.holds Tryd.pinned (.plain (OpenSpec.ofChange headsWithinSpec)) headsWithinCard

/-- THE SECOND FORM's CARD OF 'tillerlaw07.HeadsAttend'. -/
def headsAttendUptoCard : Claim7 := { stood := { row := headsAttendUptoRow, standIns := [], harness := (true, "47ee3c2372cd1b8467e7f38dbec2c61bdfe5525f9c929ea9a734b980556767cd"), looks := false }, kinds := [], alts := [], laidByText := true, laidKinds := [.data], laidTests := true, laidLooks := .later }
def HeadsAttendUptoCardSaid : Prop := Claim7.holds Tryd.pinned (.plain (OpenSpec.upto headsAttendSpec)) headsAttendUptoCard

/-- THE SECOND FORM's CARD OF 'tillerlaw07.HeadsScores'. -/
def headsScoresUptoCard : Claim7 := { stood := { row := headsScoresUptoRow, standIns := [], harness := (true, "47ee3c2372cd1b8467e7f38dbec2c61bdfe5525f9c929ea9a734b980556767cd"), looks := false }, kinds := [], alts := [], laidByText := true, laidKinds := [.data], laidTests := true, laidLooks := .later }
def HeadsScoresUptoCardSaid : Prop := Claim7.holds Tryd.pinned (.plain (OpenSpec.upto headsScoresSpec)) headsScoresUptoCard

/-- THE SECOND FORM's CARD OF 'tillerlaw07.HeadsApart'. -/
def headsApartUptoCard : Claim7 := { stood := { row := headsApartUptoRow, standIns := [], harness := (true, "47ee3c2372cd1b8467e7f38dbec2c61bdfe5525f9c929ea9a734b980556767cd"), looks := false }, kinds := [], alts := [], laidByText := true, laidKinds := [.data], laidTests := true, laidLooks := .later }
def HeadsApartUptoCardSaid : Prop := Claim7.holds Tryd.pinned (.plain (OpenSpec.upto headsApartSpec)) headsApartUptoCard

/-- THE SECOND FORM's CARD OF 'tillerlaw07.HeadsOne'. -/
def headsOneUptoCard : Claim7 := { stood := { row := headsOneUptoRow, standIns := [], harness := (true, "47ee3c2372cd1b8467e7f38dbec2c61bdfe5525f9c929ea9a734b980556767cd"), looks := false }, kinds := [], alts := [], laidByText := true, laidKinds := [.data], laidTests := true, laidLooks := .later }
def HeadsOneUptoCardSaid : Prop := Claim7.holds Tryd.pinned (.plain (OpenSpec.upto headsOneSpec)) headsOneUptoCard

/-- THE SECOND FORM's CARD OF 'tillerlaw07.HeadsTurns'. -/
def headsTurnsUptoCard : Claim7 := { stood := { row := headsTurnsUptoRow, standIns := [], harness := (true, "47ee3c2372cd1b8467e7f38dbec2c61bdfe5525f9c929ea9a734b980556767cd"), looks := false }, kinds := [], alts := [], laidByText := true, laidKinds := [.data], laidTests := true, laidLooks := .later }
def HeadsTurnsUptoCardSaid : Prop := Claim7.holds Tryd.pinned (.plain (OpenSpec.upto headsTurnsSpec)) headsTurnsUptoCard

/-- THE SECOND FORM's CARD OF 'tillerlaw07.HeadsWithin'. -/
def headsWithinUptoCard : Claim7 := { stood := { row := headsWithinUptoRow, standIns := [], harness := (true, "47ee3c2372cd1b8467e7f38dbec2c61bdfe5525f9c929ea9a734b980556767cd"), looks := false }, kinds := [], alts := [], laidByText := true, laidKinds := [.data], laidTests := true, laidLooks := .later }
def HeadsWithinUptoCardSaid : Prop := Claim7.holds Tryd.pinned (.plain (OpenSpec.upto headsWithinSpec)) headsWithinUptoCard
end Rows
end Go.Proofs.YtjcacejkiaepnaaDoor

/-
  DERIVED. GIVEN WITH THE SEED: THE CARDS: each row of YtmocofkcaamnoaaDoorRows.lean that lists a variable, with what it lists TIED to the program's text (the seventh form; the later family's looks); each row that meets fmt, with fmt's text TOLD by the authors' own Lean function (tested against real Go, not proved from fmt's source: count such statements apart). THE CARD IS WHAT COUNTS. Prove the row's statement (the work); the ties are given (YtmocofkcaamnoaaDoorTie.lean); close each card by the builder's one call (the guide's Derived/Test/ToyasCard.lean, 'card_holds'). Laid BY PROGRAM, IN A SANDBOX (cutbox-door.mjs). By AI agents, Wed Nov 11 2026. No macro, syntax, notation, axiom, sorry.
-/
import Derived.Test.YtmocofkcaamnoaaDoorRows
import GoSem.ClaimSeven
namespace Go.Proofs.YtmocofkcaamnoaaDoor
namespace Rows

/-- THE TIED CARD OF 'tillerlaw05.SoftNorms'. -/
def softNormsCard : Claim7 := { stood := { row := softNormsRow, standIns := [], harness := (true, "a440ab8ba1d5c709a837833d819231ffcfeef693d79780a115bcfe3e68de7b19"), looks := false }, kinds := [], alts := [], laidByText := true, laidKinds := [.data], laidTests := true, laidLooks := .later }
def SoftNormsCardSaid : Prop := Claim7.holds Tryd.pinned (.plain (OpenSpec.ofChange softNormsSpec)) softNormsCard

/-- THE TIED CARD OF 'tillerlaw05.SoftWeights'. -/
def softWeightsCard : Claim7 := { stood := { row := softWeightsRow, standIns := [], harness := (true, "a440ab8ba1d5c709a837833d819231ffcfeef693d79780a115bcfe3e68de7b19"), looks := false }, kinds := [], alts := [], laidByText := true, laidKinds := [.data], laidTests := true, laidLooks := .later }
def SoftWeightsCardSaid : Prop := Claim7.holds Tryd.pinned (.plain (OpenSpec.ofChange softWeightsSpec)) softWeightsCard

/-- THE TIED CARD OF 'tillerlaw05.SoftMixes'. -/
def softMixesCard : Claim7 := { stood := { row := softMixesRow, standIns := [], harness := (true, "a440ab8ba1d5c709a837833d819231ffcfeef693d79780a115bcfe3e68de7b19"), looks := false }, kinds := [], alts := [], laidByText := true, laidKinds := [.data], laidTests := true, laidLooks := .later }
def SoftMixesCardSaid : Prop := Claim7.holds Tryd.pinned (.plain (OpenSpec.ofChange softMixesSpec)) softMixesCard

/-- THE TIED CARD OF 'tillerlaw05.SoftSums'. -/
def softSumsCard : Claim7 := { stood := { row := softSumsRow, standIns := [], harness := (true, "a440ab8ba1d5c709a837833d819231ffcfeef693d79780a115bcfe3e68de7b19"), looks := false }, kinds := [], alts := [], laidByText := true, laidKinds := [.data], laidTests := true, laidLooks := .later }
def SoftSumsCardSaid : Prop := Claim7.holds Tryd.pinned (.plain (OpenSpec.ofChange softSumsSpec)) softSumsCard

/-- THE TIED CARD OF 'tillerlaw05.SoftLike'. -/
def softLikeCard : Claim7 := { stood := { row := softLikeRow, standIns := [], harness := (true, "a440ab8ba1d5c709a837833d819231ffcfeef693d79780a115bcfe3e68de7b19"), looks := false }, kinds := [], alts := [], laidByText := true, laidKinds := [.data], laidTests := true, laidLooks := .later }
def SoftLikeCardSaid : Prop := Claim7.holds Tryd.pinned (.plain (OpenSpec.ofChange softLikeSpec)) softLikeCard

/-- THE TIED CARD OF 'tillerlaw05.SoftAlone'. -/
def softAloneCard : Claim7 := { stood := { row := softAloneRow, standIns := [], harness := (true, "a440ab8ba1d5c709a837833d819231ffcfeef693d79780a115bcfe3e68de7b19"), looks := false }, kinds := [], alts := [], laidByText := true, laidKinds := [.data], laidTests := true, laidLooks := .later }
def SoftAloneCardSaid : Prop := Claim7.holds Tryd.pinned (.plain (OpenSpec.ofChange softAloneSpec)) softAloneCard

/-- THE SECOND FORM's CARD OF 'tillerlaw05.SoftNorms'. -/
def softNormsUptoCard : Claim7 := { stood := { row := softNormsUptoRow, standIns := [], harness := (true, "a440ab8ba1d5c709a837833d819231ffcfeef693d79780a115bcfe3e68de7b19"), looks := false }, kinds := [], alts := [], laidByText := true, laidKinds := [.data], laidTests := true, laidLooks := .later }
def SoftNormsUptoCardSaid : Prop := Claim7.holds Tryd.pinned (.plain (OpenSpec.upto softNormsSpec)) softNormsUptoCard

/-- THE SECOND FORM's CARD OF 'tillerlaw05.SoftWeights'. -/
def softWeightsUptoCard : Claim7 := { stood := { row := softWeightsUptoRow, standIns := [], harness := (true, "a440ab8ba1d5c709a837833d819231ffcfeef693d79780a115bcfe3e68de7b19"), looks := false }, kinds := [], alts := [], laidByText := true, laidKinds := [.data], laidTests := true, laidLooks := .later }
def SoftWeightsUptoCardSaid : Prop := Claim7.holds Tryd.pinned (.plain (OpenSpec.upto softWeightsSpec)) softWeightsUptoCard

/-- THE SECOND FORM's CARD OF 'tillerlaw05.SoftMixes'. -/
def softMixesUptoCard : Claim7 := { stood := { row := softMixesUptoRow, standIns := [], harness := (true, "a440ab8ba1d5c709a837833d819231ffcfeef693d79780a115bcfe3e68de7b19"), looks := false }, kinds := [], alts := [], laidByText := true, laidKinds := [.data], laidTests := true, laidLooks := .later }
def SoftMixesUptoCardSaid : Prop := Claim7.holds Tryd.pinned (.plain (OpenSpec.upto softMixesSpec)) softMixesUptoCard

/-- THE SECOND FORM's CARD OF 'tillerlaw05.SoftSums'. -/
def softSumsUptoCard : Claim7 := { stood := { row := softSumsUptoRow, standIns := [], harness := (true, "a440ab8ba1d5c709a837833d819231ffcfeef693d79780a115bcfe3e68de7b19"), looks := false }, kinds := [], alts := [], laidByText := true, laidKinds := [.data], laidTests := true, laidLooks := .later }
def SoftSumsUptoCardSaid : Prop := Claim7.holds Tryd.pinned (.plain (OpenSpec.upto softSumsSpec)) softSumsUptoCard

/-- THE SECOND FORM's CARD OF 'tillerlaw05.SoftLike'. -/
def softLikeUptoCard : Claim7 := { stood := { row := softLikeUptoRow, standIns := [], harness := (true, "a440ab8ba1d5c709a837833d819231ffcfeef693d79780a115bcfe3e68de7b19"), looks := false }, kinds := [], alts := [], laidByText := true, laidKinds := [.data], laidTests := true, laidLooks := .later }
def SoftLikeUptoCardSaid : Prop := Claim7.holds Tryd.pinned (.plain (OpenSpec.upto softLikeSpec)) softLikeUptoCard

/-- THE SECOND FORM's CARD OF 'tillerlaw05.SoftAlone'. -/
def softAloneUptoCard : Claim7 := { stood := { row := softAloneUptoRow, standIns := [], harness := (true, "a440ab8ba1d5c709a837833d819231ffcfeef693d79780a115bcfe3e68de7b19"), looks := false }, kinds := [], alts := [], laidByText := true, laidKinds := [.data], laidTests := true, laidLooks := .later }
def SoftAloneUptoCardSaid : Prop := Claim7.holds Tryd.pinned (.plain (OpenSpec.upto softAloneSpec)) softAloneUptoCard
end Rows
end Go.Proofs.YtmocofkcaamnoaaDoor

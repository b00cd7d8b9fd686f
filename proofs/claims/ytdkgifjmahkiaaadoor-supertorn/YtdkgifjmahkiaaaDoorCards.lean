/-
  DERIVED. GIVEN WITH THE SEED: THE CARDS: each row of YtdkgifjmahkiaaaDoorRows.lean that lists a variable, with what it lists TIED to the program's text (the seventh form; the later family's looks); each row that meets fmt, with fmt's text TOLD by the authors' own Lean function (tested against real Go, not proved from fmt's source: count such statements apart). THE CARD IS WHAT COUNTS. Prove the row's statement (the work); the ties are given (YtdkgifjmahkiaaaDoorTie.lean); close each card by the builder's one call (the guide's Derived/Test/ToyasCard.lean, 'card_holds'). Laid BY PROGRAM, IN A SANDBOX (cutbox-door.mjs). By AI agents, Wed Nov 11 2026. No macro, syntax, notation, axiom, sorry.
-/
import Derived.Test.YtdkgifjmahkiaaaDoorRows
import GoSem.ClaimSeven
namespace Go.Proofs.YtdkgifjmahkiaaaDoor
namespace Rows

/-- THE TIED CARD OF 'coppicelaw09.SuperWraps'. -/
def superWrapsCard : Claim7 := { stood := { row := superWrapsRow, standIns := [], harness := (true, "54388fd8d47919ac79f4b2bc696ae3cb5dd8ad458a8634fe0f067c0abc78dd20"), looks := false }, kinds := [], alts := [], laidByText := true, laidKinds := [.data, .data, .pinned], laidTests := true, laidLooks := .later }
def SuperWrapsCardSaid : Prop := Claim7.holds Tryd.pinned (.plain (OpenSpec.ofChange superWrapsSpec)) superWrapsCard

/-- THE TIED CARD OF 'coppicelaw09.SuperOpens'. -/
def superOpensCard : Claim7 := { stood := { row := superOpensRow, standIns := [], harness := (true, "54388fd8d47919ac79f4b2bc696ae3cb5dd8ad458a8634fe0f067c0abc78dd20"), looks := false }, kinds := [], alts := [], laidByText := true, laidKinds := [.data, .data, .pinned], laidTests := true, laidLooks := .later }
def SuperOpensCardSaid : Prop := Claim7.holds Tryd.pinned (.plain (OpenSpec.ofChange superOpensSpec)) superOpensCard

/-- THE TIED CARD OF 'coppicelaw09.SuperBack'. -/
def superBackCard : Claim7 := { stood := { row := superBackRow, standIns := [], harness := (true, "54388fd8d47919ac79f4b2bc696ae3cb5dd8ad458a8634fe0f067c0abc78dd20"), looks := false }, kinds := [], alts := [], laidByText := true, laidKinds := [.data, .data, .pinned], laidTests := true, laidLooks := .later }
def SuperBackCardSaid : Prop := Claim7.holds Tryd.pinned (.plain (OpenSpec.ofChange superBackSpec)) superBackCard

/-- THE TIED CARD OF 'coppicelaw09.SuperChooses'. -/
def superChoosesCard : Claim7 := { stood := { row := superChoosesRow, standIns := [], harness := (true, "54388fd8d47919ac79f4b2bc696ae3cb5dd8ad458a8634fe0f067c0abc78dd20"), looks := false }, kinds := [], alts := [], laidByText := true, laidKinds := [.data, .data, .pinned], laidTests := true, laidLooks := .later }
def SuperChoosesCardSaid : Prop := Claim7.holds Tryd.pinned (.plain (OpenSpec.ofChange superChoosesSpec)) superChoosesCard

/-- THE TIED CARD OF 'coppicelaw09.SuperTorn'. -/
def superTornCard : Claim7 := { stood := { row := superTornRow, standIns := [], harness := (true, "54388fd8d47919ac79f4b2bc696ae3cb5dd8ad458a8634fe0f067c0abc78dd20"), looks := false }, kinds := [], alts := [], laidByText := true, laidKinds := [.data, .data, .pinned], laidTests := true, laidLooks := .later }
def SuperTornCardSaid : Prop := Claim7.holds Tryd.pinned (.plain (OpenSpec.ofChange superTornSpec)) superTornCard

/-- THE TIED CARD OF 'coppicelaw09.SuperNewer'. -/
def superNewerCard : Claim7 := { stood := { row := superNewerRow, standIns := [], harness := (true, "54388fd8d47919ac79f4b2bc696ae3cb5dd8ad458a8634fe0f067c0abc78dd20"), looks := false }, kinds := [], alts := [], laidByText := true, laidKinds := [.data, .data, .pinned], laidTests := true, laidLooks := .later }
def SuperNewerCardSaid : Prop := Claim7.holds Tryd.pinned (.plain (OpenSpec.ofChange superNewerSpec)) superNewerCard

/-- THE SECOND FORM's CARD OF 'coppicelaw09.SuperWraps'. -/
def superWrapsUptoCard : Claim7 := { stood := { row := superWrapsUptoRow, standIns := [], harness := (true, "54388fd8d47919ac79f4b2bc696ae3cb5dd8ad458a8634fe0f067c0abc78dd20"), looks := false }, kinds := [], alts := [], laidByText := true, laidKinds := [.data, .data, .pinned], laidTests := true, laidLooks := .later }
def SuperWrapsUptoCardSaid : Prop := Claim7.holds Tryd.pinned (.plain (OpenSpec.upto superWrapsSpec)) superWrapsUptoCard

/-- THE SECOND FORM's CARD OF 'coppicelaw09.SuperOpens'. -/
def superOpensUptoCard : Claim7 := { stood := { row := superOpensUptoRow, standIns := [], harness := (true, "54388fd8d47919ac79f4b2bc696ae3cb5dd8ad458a8634fe0f067c0abc78dd20"), looks := false }, kinds := [], alts := [], laidByText := true, laidKinds := [.data, .data, .pinned], laidTests := true, laidLooks := .later }
def SuperOpensUptoCardSaid : Prop := Claim7.holds Tryd.pinned (.plain (OpenSpec.upto superOpensSpec)) superOpensUptoCard

/-- THE SECOND FORM's CARD OF 'coppicelaw09.SuperBack'. -/
def superBackUptoCard : Claim7 := { stood := { row := superBackUptoRow, standIns := [], harness := (true, "54388fd8d47919ac79f4b2bc696ae3cb5dd8ad458a8634fe0f067c0abc78dd20"), looks := false }, kinds := [], alts := [], laidByText := true, laidKinds := [.data, .data, .pinned], laidTests := true, laidLooks := .later }
def SuperBackUptoCardSaid : Prop := Claim7.holds Tryd.pinned (.plain (OpenSpec.upto superBackSpec)) superBackUptoCard

/-- THE SECOND FORM's CARD OF 'coppicelaw09.SuperChooses'. -/
def superChoosesUptoCard : Claim7 := { stood := { row := superChoosesUptoRow, standIns := [], harness := (true, "54388fd8d47919ac79f4b2bc696ae3cb5dd8ad458a8634fe0f067c0abc78dd20"), looks := false }, kinds := [], alts := [], laidByText := true, laidKinds := [.data, .data, .pinned], laidTests := true, laidLooks := .later }
def SuperChoosesUptoCardSaid : Prop := Claim7.holds Tryd.pinned (.plain (OpenSpec.upto superChoosesSpec)) superChoosesUptoCard

/-- THE SECOND FORM's CARD OF 'coppicelaw09.SuperTorn'. -/
def superTornUptoCard : Claim7 := { stood := { row := superTornUptoRow, standIns := [], harness := (true, "54388fd8d47919ac79f4b2bc696ae3cb5dd8ad458a8634fe0f067c0abc78dd20"), looks := false }, kinds := [], alts := [], laidByText := true, laidKinds := [.data, .data, .pinned], laidTests := true, laidLooks := .later }
def SuperTornUptoCardSaid : Prop := Claim7.holds Tryd.pinned (.plain (OpenSpec.upto superTornSpec)) superTornUptoCard

/-- THE SECOND FORM's CARD OF 'coppicelaw09.SuperNewer'. -/
def superNewerUptoCard : Claim7 := { stood := { row := superNewerUptoRow, standIns := [], harness := (true, "54388fd8d47919ac79f4b2bc696ae3cb5dd8ad458a8634fe0f067c0abc78dd20"), looks := false }, kinds := [], alts := [], laidByText := true, laidKinds := [.data, .data, .pinned], laidTests := true, laidLooks := .later }
def SuperNewerUptoCardSaid : Prop := Claim7.holds Tryd.pinned (.plain (OpenSpec.upto superNewerSpec)) superNewerUptoCard
end Rows
end Go.Proofs.YtdkgifjmahkiaaaDoor

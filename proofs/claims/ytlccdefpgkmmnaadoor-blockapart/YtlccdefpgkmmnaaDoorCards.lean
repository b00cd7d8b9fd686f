/-
  DERIVED. GIVEN WITH THE SEED: THE CARDS: each row of YtlccdefpgkmmnaaDoorRows.lean that lists a variable, with what it lists TIED to the program's text (the seventh form; the later family's looks); each row that meets fmt, with fmt's text TOLD by the authors' own Lean function (tested against real Go, not proved from fmt's source: count such statements apart). THE CARD IS WHAT COUNTS. Prove the row's statement (the work); the ties are given (YtlccdefpgkmmnaaDoorTie.lean); close each card by the builder's one call (the guide's Derived/Test/ToyasCard.lean, 'card_holds'). Laid BY PROGRAM, IN A SANDBOX (cutbox-door.mjs). By AI agents, Wed Nov 11 2026. No macro, syntax, notation, axiom, sorry.
-/
import Derived.Test.YtlccdefpgkmmnaaDoorRows
import GoSem.ClaimSeven
namespace Go.Proofs.YtlccdefpgkmmnaaDoor
namespace Rows

/-- THE TIED CARD OF 'coppicelaw04.BlockWraps'. -/
def blockWrapsCard : Claim7 := { stood := { row := blockWrapsRow, standIns := [], harness := (true, "afcc636020cb12e849bb9596aec415b7bff0c9a0ef37d336d2d5d4cc12fae967"), looks := false }, kinds := [], alts := [], laidByText := true, laidKinds := [.data, .data, .pinned], laidTests := true, laidLooks := .later }
def BlockWrapsCardSaid : Prop := Claim7.holds Tryd.pinned (.plain (OpenSpec.ofChange blockWrapsSpec)) blockWrapsCard

/-- THE TIED CARD OF 'coppicelaw04.BlockOpens'. -/
def blockOpensCard : Claim7 := { stood := { row := blockOpensRow, standIns := [], harness := (true, "afcc636020cb12e849bb9596aec415b7bff0c9a0ef37d336d2d5d4cc12fae967"), looks := false }, kinds := [], alts := [], laidByText := true, laidKinds := [.data, .data, .pinned], laidTests := true, laidLooks := .later }
def BlockOpensCardSaid : Prop := Claim7.holds Tryd.pinned (.plain (OpenSpec.ofChange blockOpensSpec)) blockOpensCard

/-- THE TIED CARD OF 'coppicelaw04.BlockBack'. -/
def blockBackCard : Claim7 := { stood := { row := blockBackRow, standIns := [], harness := (true, "afcc636020cb12e849bb9596aec415b7bff0c9a0ef37d336d2d5d4cc12fae967"), looks := false }, kinds := [], alts := [], laidByText := true, laidKinds := [.data, .data, .pinned], laidTests := true, laidLooks := .later }
def BlockBackCardSaid : Prop := Claim7.holds Tryd.pinned (.plain (OpenSpec.ofChange blockBackSpec)) blockBackCard

/-- THE TIED CARD OF 'coppicelaw04.BlockTurns'. -/
def blockTurnsCard : Claim7 := { stood := { row := blockTurnsRow, standIns := [], harness := (true, "afcc636020cb12e849bb9596aec415b7bff0c9a0ef37d336d2d5d4cc12fae967"), looks := false }, kinds := [], alts := [], laidByText := true, laidKinds := [.data, .data, .pinned], laidTests := true, laidLooks := .later }
def BlockTurnsCardSaid : Prop := Claim7.holds Tryd.pinned (.plain (OpenSpec.ofChange blockTurnsSpec)) blockTurnsCard

/-- THE TIED CARD OF 'coppicelaw04.BlockApart'. -/
def blockApartCard : Claim7 := { stood := { row := blockApartRow, standIns := [], harness := (true, "afcc636020cb12e849bb9596aec415b7bff0c9a0ef37d336d2d5d4cc12fae967"), looks := false }, kinds := [], alts := [], laidByText := true, laidKinds := [.data, .data, .pinned], laidTests := true, laidLooks := .later }
def BlockApartCardSaid : Prop := Claim7.holds Tryd.pinned (.plain (OpenSpec.ofChange blockApartSpec)) blockApartCard

/-- THE SECOND FORM's CARD OF 'coppicelaw04.BlockWraps'. -/
def blockWrapsUptoCard : Claim7 := { stood := { row := blockWrapsUptoRow, standIns := [], harness := (true, "afcc636020cb12e849bb9596aec415b7bff0c9a0ef37d336d2d5d4cc12fae967"), looks := false }, kinds := [], alts := [], laidByText := true, laidKinds := [.data, .data, .pinned], laidTests := true, laidLooks := .later }
def BlockWrapsUptoCardSaid : Prop := Claim7.holds Tryd.pinned (.plain (OpenSpec.upto blockWrapsSpec)) blockWrapsUptoCard

/-- THE SECOND FORM's CARD OF 'coppicelaw04.BlockOpens'. -/
def blockOpensUptoCard : Claim7 := { stood := { row := blockOpensUptoRow, standIns := [], harness := (true, "afcc636020cb12e849bb9596aec415b7bff0c9a0ef37d336d2d5d4cc12fae967"), looks := false }, kinds := [], alts := [], laidByText := true, laidKinds := [.data, .data, .pinned], laidTests := true, laidLooks := .later }
def BlockOpensUptoCardSaid : Prop := Claim7.holds Tryd.pinned (.plain (OpenSpec.upto blockOpensSpec)) blockOpensUptoCard

/-- THE SECOND FORM's CARD OF 'coppicelaw04.BlockBack'. -/
def blockBackUptoCard : Claim7 := { stood := { row := blockBackUptoRow, standIns := [], harness := (true, "afcc636020cb12e849bb9596aec415b7bff0c9a0ef37d336d2d5d4cc12fae967"), looks := false }, kinds := [], alts := [], laidByText := true, laidKinds := [.data, .data, .pinned], laidTests := true, laidLooks := .later }
def BlockBackUptoCardSaid : Prop := Claim7.holds Tryd.pinned (.plain (OpenSpec.upto blockBackSpec)) blockBackUptoCard

/-- THE SECOND FORM's CARD OF 'coppicelaw04.BlockTurns'. -/
def blockTurnsUptoCard : Claim7 := { stood := { row := blockTurnsUptoRow, standIns := [], harness := (true, "afcc636020cb12e849bb9596aec415b7bff0c9a0ef37d336d2d5d4cc12fae967"), looks := false }, kinds := [], alts := [], laidByText := true, laidKinds := [.data, .data, .pinned], laidTests := true, laidLooks := .later }
def BlockTurnsUptoCardSaid : Prop := Claim7.holds Tryd.pinned (.plain (OpenSpec.upto blockTurnsSpec)) blockTurnsUptoCard

/-- THE SECOND FORM's CARD OF 'coppicelaw04.BlockApart'. -/
def blockApartUptoCard : Claim7 := { stood := { row := blockApartUptoRow, standIns := [], harness := (true, "afcc636020cb12e849bb9596aec415b7bff0c9a0ef37d336d2d5d4cc12fae967"), looks := false }, kinds := [], alts := [], laidByText := true, laidKinds := [.data, .data, .pinned], laidTests := true, laidLooks := .later }
def BlockApartUptoCardSaid : Prop := Claim7.holds Tryd.pinned (.plain (OpenSpec.upto blockApartSpec)) blockApartUptoCard
end Rows
end Go.Proofs.YtlccdefpgkmmnaaDoor

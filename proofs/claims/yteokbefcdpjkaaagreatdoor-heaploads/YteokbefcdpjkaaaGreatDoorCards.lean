/-
  DERIVED. GIVEN WITH THE SEED: THE CARDS: each row of YteokbefcdpjkaaaGreatDoorRows.lean that lists a variable, with what it lists TIED to the program's text (the seventh form; the later family's looks); each row that meets fmt, with fmt's text TOLD by the authors' own Lean function (tested against real Go, not proved from fmt's source: count such statements apart). THE CARD IS WHAT COUNTS. Prove the row's statement (the work); the ties are given (YteokbefcdpjkaaaGreatDoorTie.lean); close each card by the builder's one call (the guide's Derived/Test/ToyasCard.lean, 'card_holds'). Laid BY PROGRAM, IN A SANDBOX (cutbox-door.mjs). By AI agents, Wed Nov 11 2026. No macro, syntax, notation, axiom, sorry.
-/
import Derived.Test.YteokbefcdpjkaaaGreatDoorRows
import GoSem.ClaimSeven
namespace Go.Proofs.YteokbefcdpjkaaaGreatDoor
namespace Rows

/-- THE TIED CARD OF 'coppicelaw07.HeapPlays'. -/
def heapPlaysCard : Claim7 := { stood := { row := heapPlaysRow, standIns := [], harness := (true, "3d310f3c77d025639549c7b582b5a5d7359c527eb4be798ee90b82bf7d1233a0"), looks := true }, kinds := [], alts := [], laidByText := true, laidKinds := [.data, .data, .pinned], laidTests := true, laidLooks := .later }
def HeapPlaysCardSaid : Prop := Claim7.holds Tryz.pinned (.plain (OpenSpec.ofChange heapPlaysSpec)) heapPlaysCard

/-- THE TIED CARD OF 'coppicelaw07.HeapStays'. -/
def heapStaysCard : Claim7 := { stood := { row := heapStaysRow, standIns := [], harness := (true, "3d310f3c77d025639549c7b582b5a5d7359c527eb4be798ee90b82bf7d1233a0"), looks := true }, kinds := [], alts := [], laidByText := true, laidKinds := [.data, .data, .pinned], laidTests := true, laidLooks := .later }
def HeapStaysCardSaid : Prop := Claim7.holds Tryz.pinned (.plain (OpenSpec.ofChange heapStaysSpec)) heapStaysCard

/-- THE TIED CARD OF 'coppicelaw07.HeapWaits'. -/
def heapWaitsCard : Claim7 := { stood := { row := heapWaitsRow, standIns := [], harness := (true, "3d310f3c77d025639549c7b582b5a5d7359c527eb4be798ee90b82bf7d1233a0"), looks := true }, kinds := [], alts := [], laidByText := true, laidKinds := [.data, .data, .pinned], laidTests := true, laidLooks := .later }
def HeapWaitsCardSaid : Prop := Claim7.holds Tryz.pinned (.plain (OpenSpec.ofChange heapWaitsSpec)) heapWaitsCard

/-- THE TIED CARD OF 'coppicelaw07.HeapLoads'. -/
def heapLoadsCard : Claim7 := { stood := { row := heapLoadsRow, standIns := [], harness := (true, "3d310f3c77d025639549c7b582b5a5d7359c527eb4be798ee90b82bf7d1233a0"), looks := true }, kinds := [], alts := [], laidByText := true, laidKinds := [.data, .data, .pinned], laidTests := true, laidLooks := .later }
def HeapLoadsCardSaid : Prop := Claim7.holds Tryz.pinned (.plain (OpenSpec.ofChange heapLoadsSpec)) heapLoadsCard

/-- THE TIED CARD OF 'coppicelaw07.HeapBack'. -/
def heapBackCard : Claim7 := { stood := { row := heapBackRow, standIns := [], harness := (true, "3d310f3c77d025639549c7b582b5a5d7359c527eb4be798ee90b82bf7d1233a0"), looks := true }, kinds := [], alts := [], laidByText := true, laidKinds := [.data, .data, .pinned], laidTests := true, laidLooks := .later }
def HeapBackCardSaid : Prop := Claim7.holds Tryz.pinned (.plain (OpenSpec.ofChange heapBackSpec)) heapBackCard

/-- THE TIED CARD OF 'coppicelaw07.HeapNil'. -/
def heapNilCard : Claim7 := { stood := { row := heapNilRow, standIns := [], harness := (true, "3d310f3c77d025639549c7b582b5a5d7359c527eb4be798ee90b82bf7d1233a0"), looks := true }, kinds := [], alts := [], laidByText := true, laidKinds := [.data, .data, .pinned], laidTests := true, laidLooks := .later }
def HeapNilCardSaid : Prop := Claim7.holds Tryz.pinned (.plain (OpenSpec.ofChange heapNilSpec)) heapNilCard

/-- THE SECOND FORM's CARD OF 'coppicelaw07.HeapPlays'. -/
def heapPlaysUptoCard : Claim7 := { stood := { row := heapPlaysUptoRow, standIns := [], harness := (true, "3d310f3c77d025639549c7b582b5a5d7359c527eb4be798ee90b82bf7d1233a0"), looks := true }, kinds := [], alts := [], laidByText := true, laidKinds := [.data, .data, .pinned], laidTests := true, laidLooks := .later }
def HeapPlaysUptoCardSaid : Prop := Claim7.holds Tryz.pinned (.plain (OpenSpec.upto heapPlaysSpec)) heapPlaysUptoCard

/-- THE SECOND FORM's CARD OF 'coppicelaw07.HeapStays'. -/
def heapStaysUptoCard : Claim7 := { stood := { row := heapStaysUptoRow, standIns := [], harness := (true, "3d310f3c77d025639549c7b582b5a5d7359c527eb4be798ee90b82bf7d1233a0"), looks := true }, kinds := [], alts := [], laidByText := true, laidKinds := [.data, .data, .pinned], laidTests := true, laidLooks := .later }
def HeapStaysUptoCardSaid : Prop := Claim7.holds Tryz.pinned (.plain (OpenSpec.upto heapStaysSpec)) heapStaysUptoCard

/-- THE SECOND FORM's CARD OF 'coppicelaw07.HeapWaits'. -/
def heapWaitsUptoCard : Claim7 := { stood := { row := heapWaitsUptoRow, standIns := [], harness := (true, "3d310f3c77d025639549c7b582b5a5d7359c527eb4be798ee90b82bf7d1233a0"), looks := true }, kinds := [], alts := [], laidByText := true, laidKinds := [.data, .data, .pinned], laidTests := true, laidLooks := .later }
def HeapWaitsUptoCardSaid : Prop := Claim7.holds Tryz.pinned (.plain (OpenSpec.upto heapWaitsSpec)) heapWaitsUptoCard

/-- THE SECOND FORM's CARD OF 'coppicelaw07.HeapLoads'. -/
def heapLoadsUptoCard : Claim7 := { stood := { row := heapLoadsUptoRow, standIns := [], harness := (true, "3d310f3c77d025639549c7b582b5a5d7359c527eb4be798ee90b82bf7d1233a0"), looks := true }, kinds := [], alts := [], laidByText := true, laidKinds := [.data, .data, .pinned], laidTests := true, laidLooks := .later }
def HeapLoadsUptoCardSaid : Prop := Claim7.holds Tryz.pinned (.plain (OpenSpec.upto heapLoadsSpec)) heapLoadsUptoCard

/-- THE SECOND FORM's CARD OF 'coppicelaw07.HeapBack'. -/
def heapBackUptoCard : Claim7 := { stood := { row := heapBackUptoRow, standIns := [], harness := (true, "3d310f3c77d025639549c7b582b5a5d7359c527eb4be798ee90b82bf7d1233a0"), looks := true }, kinds := [], alts := [], laidByText := true, laidKinds := [.data, .data, .pinned], laidTests := true, laidLooks := .later }
def HeapBackUptoCardSaid : Prop := Claim7.holds Tryz.pinned (.plain (OpenSpec.upto heapBackSpec)) heapBackUptoCard

/-- THE SECOND FORM's CARD OF 'coppicelaw07.HeapNil'. -/
def heapNilUptoCard : Claim7 := { stood := { row := heapNilUptoRow, standIns := [], harness := (true, "3d310f3c77d025639549c7b582b5a5d7359c527eb4be798ee90b82bf7d1233a0"), looks := true }, kinds := [], alts := [], laidByText := true, laidKinds := [.data, .data, .pinned], laidTests := true, laidLooks := .later }
def HeapNilUptoCardSaid : Prop := Claim7.holds Tryz.pinned (.plain (OpenSpec.upto heapNilSpec)) heapNilUptoCard
end Rows
end Go.Proofs.YteokbefcdpjkaaaGreatDoor

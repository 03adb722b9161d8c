/-
  DERIVED. GIVEN WITH THE SEED: THE CARDS: each row of YtlmhapbmebnmlaaDoorRows.lean that lists a variable, with what it lists TIED to the program's text (the seventh form; the later family's looks); each row that meets fmt, with fmt's text TOLD by the authors' own Lean function (tested against real Go, not proved from fmt's source: count such statements apart). THE CARD IS WHAT COUNTS. Prove the row's statement (the work); the ties are given (YtlmhapbmebnmlaaDoorTie.lean); close each card by the builder's one call (the guide's Derived/Test/ToyasCard.lean, 'card_holds'). Laid BY PROGRAM, IN A SANDBOX (cutbox-door.mjs). By AI agents, Wed Nov 11 2026. No macro, syntax, notation, axiom, sorry.
-/
import Derived.Test.YtlmhapbmebnmlaaDoorRows
import GoSem.ClaimSeven
namespace Go.Proofs.YtlmhapbmebnmlaaDoor
namespace Rows

/-- THE TIED CARD OF 'gnomonlaw.DaysTells'. -/
def daysTellsCard : Claim7 := { stood := { row := daysTellsRow, standIns := [], harness := (true, "e042b1614f3a36edaafc36d108ef0b01b60d9a63ae5115370c558d49b3c39677"), looks := false }, kinds := [], alts := [], laidByText := true, laidKinds := [.data], laidTests := true, laidLooks := .later }
def DaysTellsCardSaid : Prop := Claim7.holds Tryd.pinned (.plain (OpenSpec.ofChange daysTellsSpec)) daysTellsCard

/-- THE TIED CARD OF 'gnomonlaw.DaysBack'. -/
def daysBackCard : Claim7 := { stood := { row := daysBackRow, standIns := [], harness := (true, "e042b1614f3a36edaafc36d108ef0b01b60d9a63ae5115370c558d49b3c39677"), looks := false }, kinds := [], alts := [], laidByText := true, laidKinds := [.data], laidTests := true, laidLooks := .later }
def DaysBackCardSaid : Prop := Claim7.holds Tryd.pinned (.plain (OpenSpec.ofChange daysBackSpec)) daysBackCard

/-- THE TIED CARD OF 'gnomonlaw.DaysYear'. -/
def daysYearCard : Claim7 := { stood := { row := daysYearRow, standIns := [], harness := (true, "e042b1614f3a36edaafc36d108ef0b01b60d9a63ae5115370c558d49b3c39677"), looks := false }, kinds := [], alts := [], laidByText := true, laidKinds := [.data], laidTests := true, laidLooks := .later }
def DaysYearCardSaid : Prop := Claim7.holds Tryd.pinned (.plain (OpenSpec.ofChange daysYearSpec)) daysYearCard

/-- THE TIED CARD OF 'gnomonlaw.PickTells'. -/
def pickTellsCard : Claim7 := { stood := { row := pickTellsRow, standIns := [], harness := (true, "e042b1614f3a36edaafc36d108ef0b01b60d9a63ae5115370c558d49b3c39677"), looks := false }, kinds := [], alts := [], laidByText := true, laidKinds := [.data], laidTests := true, laidLooks := .later }
def PickTellsCardSaid : Prop := Claim7.holds Tryd.pinned (.plain (OpenSpec.ofChange pickTellsSpec)) pickTellsCard

/-- THE TIED CARD OF 'gnomonlaw.PickTrue'. -/
def pickTrueCard : Claim7 := { stood := { row := pickTrueRow, standIns := [], harness := (true, "e042b1614f3a36edaafc36d108ef0b01b60d9a63ae5115370c558d49b3c39677"), looks := false }, kinds := [], alts := [], laidByText := true, laidKinds := [.data], laidTests := true, laidLooks := .later }
def PickTrueCardSaid : Prop := Claim7.holds Tryd.pinned (.plain (OpenSpec.ofChange pickTrueSpec)) pickTrueCard

/-- THE TIED CARD OF 'gnomonlaw.PickAgain'. -/
def pickAgainCard : Claim7 := { stood := { row := pickAgainRow, standIns := [], harness := (true, "e042b1614f3a36edaafc36d108ef0b01b60d9a63ae5115370c558d49b3c39677"), looks := false }, kinds := [], alts := [], laidByText := true, laidKinds := [.data], laidTests := true, laidLooks := .later }
def PickAgainCardSaid : Prop := Claim7.holds Tryd.pinned (.plain (OpenSpec.ofChange pickAgainSpec)) pickAgainCard

/-- THE SECOND FORM's CARD OF 'gnomonlaw.DaysTells'. -/
def daysTellsUptoCard : Claim7 := { stood := { row := daysTellsUptoRow, standIns := [], harness := (true, "e042b1614f3a36edaafc36d108ef0b01b60d9a63ae5115370c558d49b3c39677"), looks := false }, kinds := [], alts := [], laidByText := true, laidKinds := [.data], laidTests := true, laidLooks := .later }
def DaysTellsUptoCardSaid : Prop := Claim7.holds Tryd.pinned (.plain (OpenSpec.upto daysTellsSpec)) daysTellsUptoCard

/-- THE SECOND FORM's CARD OF 'gnomonlaw.DaysBack'. -/
def daysBackUptoCard : Claim7 := { stood := { row := daysBackUptoRow, standIns := [], harness := (true, "e042b1614f3a36edaafc36d108ef0b01b60d9a63ae5115370c558d49b3c39677"), looks := false }, kinds := [], alts := [], laidByText := true, laidKinds := [.data], laidTests := true, laidLooks := .later }
def DaysBackUptoCardSaid : Prop := Claim7.holds Tryd.pinned (.plain (OpenSpec.upto daysBackSpec)) daysBackUptoCard

/-- THE SECOND FORM's CARD OF 'gnomonlaw.DaysYear'. -/
def daysYearUptoCard : Claim7 := { stood := { row := daysYearUptoRow, standIns := [], harness := (true, "e042b1614f3a36edaafc36d108ef0b01b60d9a63ae5115370c558d49b3c39677"), looks := false }, kinds := [], alts := [], laidByText := true, laidKinds := [.data], laidTests := true, laidLooks := .later }
def DaysYearUptoCardSaid : Prop := Claim7.holds Tryd.pinned (.plain (OpenSpec.upto daysYearSpec)) daysYearUptoCard

/-- THE SECOND FORM's CARD OF 'gnomonlaw.PickTells'. -/
def pickTellsUptoCard : Claim7 := { stood := { row := pickTellsUptoRow, standIns := [], harness := (true, "e042b1614f3a36edaafc36d108ef0b01b60d9a63ae5115370c558d49b3c39677"), looks := false }, kinds := [], alts := [], laidByText := true, laidKinds := [.data], laidTests := true, laidLooks := .later }
def PickTellsUptoCardSaid : Prop := Claim7.holds Tryd.pinned (.plain (OpenSpec.upto pickTellsSpec)) pickTellsUptoCard

/-- THE SECOND FORM's CARD OF 'gnomonlaw.PickTrue'. -/
def pickTrueUptoCard : Claim7 := { stood := { row := pickTrueUptoRow, standIns := [], harness := (true, "e042b1614f3a36edaafc36d108ef0b01b60d9a63ae5115370c558d49b3c39677"), looks := false }, kinds := [], alts := [], laidByText := true, laidKinds := [.data], laidTests := true, laidLooks := .later }
def PickTrueUptoCardSaid : Prop := Claim7.holds Tryd.pinned (.plain (OpenSpec.upto pickTrueSpec)) pickTrueUptoCard

/-- THE SECOND FORM's CARD OF 'gnomonlaw.PickAgain'. -/
def pickAgainUptoCard : Claim7 := { stood := { row := pickAgainUptoRow, standIns := [], harness := (true, "e042b1614f3a36edaafc36d108ef0b01b60d9a63ae5115370c558d49b3c39677"), looks := false }, kinds := [], alts := [], laidByText := true, laidKinds := [.data], laidTests := true, laidLooks := .later }
def PickAgainUptoCardSaid : Prop := Claim7.holds Tryd.pinned (.plain (OpenSpec.upto pickAgainSpec)) pickAgainUptoCard
end Rows
end Go.Proofs.YtlmhapbmebnmlaaDoor

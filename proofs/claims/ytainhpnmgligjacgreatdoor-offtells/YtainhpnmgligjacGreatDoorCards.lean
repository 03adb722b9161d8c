/-
  DERIVED. GIVEN WITH THE SEED: THE CARDS: each row of YtainhpnmgligjacGreatDoorRows.lean that lists a variable, with what it lists TIED to the program's text (the seventh form; the later family's looks); each row that meets fmt, with fmt's text TOLD by the authors' own Lean function (tested against real Go, not proved from fmt's source: count such statements apart). THE CARD IS WHAT COUNTS. Prove the row's statement (the work); the ties are given (YtainhpnmgligjacGreatDoorTie.lean); close each card by the builder's one call (the guide's Derived/Test/ToyasCard.lean, 'card_holds'). Laid BY PROGRAM, IN A SANDBOX (cutbox-door.mjs). By AI agents, Wed Nov 11 2026. No macro, syntax, notation, axiom, sorry.
-/
import Derived.Test.YtainhpnmgligjacGreatDoorRows
import GoSem.ClaimSeven
namespace Go.Proofs.YtainhpnmgligjacGreatDoor
namespace Rows

/-- THE TIED CARD OF 'gnomonlaw.OffTells'. -/
def offTellsCard : Claim7 := { stood := { row := offTellsRow, standIns := [], harness := (true, "216ac33ae60cf23b529d27405c8b1da23d7a4bc9c458509ab0995d8394f611e1"), looks := true }, kinds := [], alts := [], laidByText := true, laidKinds := [.data, .data, .pinned], laidTests := true, laidLooks := .later }
def OffTellsCardSaid : Prop := Claim7.holds Tryz.pinned (.plain (OpenSpec.ofChange offTellsSpec)) offTellsCard

/-- THE TIED CARD OF 'gnomonlaw.TableTells'. -/
def tableTellsCard : Claim7 := { stood := { row := tableTellsRow, standIns := [], harness := (true, "216ac33ae60cf23b529d27405c8b1da23d7a4bc9c458509ab0995d8394f611e1"), looks := true }, kinds := [], alts := [], laidByText := true, laidKinds := [.data, .data, .pinned], laidTests := true, laidLooks := .later }
def TableTellsCardSaid : Prop := Claim7.holds Tryz.pinned (.plain (OpenSpec.ofChange tableTellsSpec)) tableTellsCard

/-- THE TIED CARD OF 'gnomonlaw.TableSame'. -/
def tableSameCard : Claim7 := { stood := { row := tableSameRow, standIns := [], harness := (true, "216ac33ae60cf23b529d27405c8b1da23d7a4bc9c458509ab0995d8394f611e1"), looks := true }, kinds := [], alts := [], laidByText := true, laidKinds := [.data, .data, .pinned], laidTests := true, laidLooks := .later }
def TableSameCardSaid : Prop := Claim7.holds Tryz.pinned (.plain (OpenSpec.ofChange tableSameSpec)) tableSameCard

/-- THE SECOND FORM's CARD OF 'gnomonlaw.OffTells'. -/
def offTellsUptoCard : Claim7 := { stood := { row := offTellsUptoRow, standIns := [], harness := (true, "216ac33ae60cf23b529d27405c8b1da23d7a4bc9c458509ab0995d8394f611e1"), looks := true }, kinds := [], alts := [], laidByText := true, laidKinds := [.data, .data, .pinned], laidTests := true, laidLooks := .later }
def OffTellsUptoCardSaid : Prop := Claim7.holds Tryz.pinned (.plain (OpenSpec.upto offTellsSpec)) offTellsUptoCard

/-- THE SECOND FORM's CARD OF 'gnomonlaw.TableTells'. -/
def tableTellsUptoCard : Claim7 := { stood := { row := tableTellsUptoRow, standIns := [], harness := (true, "216ac33ae60cf23b529d27405c8b1da23d7a4bc9c458509ab0995d8394f611e1"), looks := true }, kinds := [], alts := [], laidByText := true, laidKinds := [.data, .data, .pinned], laidTests := true, laidLooks := .later }
def TableTellsUptoCardSaid : Prop := Claim7.holds Tryz.pinned (.plain (OpenSpec.upto tableTellsSpec)) tableTellsUptoCard

/-- THE SECOND FORM's CARD OF 'gnomonlaw.TableSame'. -/
def tableSameUptoCard : Claim7 := { stood := { row := tableSameUptoRow, standIns := [], harness := (true, "216ac33ae60cf23b529d27405c8b1da23d7a4bc9c458509ab0995d8394f611e1"), looks := true }, kinds := [], alts := [], laidByText := true, laidKinds := [.data, .data, .pinned], laidTests := true, laidLooks := .later }
def TableSameUptoCardSaid : Prop := Claim7.holds Tryz.pinned (.plain (OpenSpec.upto tableSameSpec)) tableSameUptoCard
end Rows
end Go.Proofs.YtainhpnmgligjacGreatDoor

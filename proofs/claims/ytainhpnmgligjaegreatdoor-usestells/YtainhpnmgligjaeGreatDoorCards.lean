/-
  DERIVED. GIVEN WITH THE SEED: THE CARDS: each row of YtainhpnmgligjaeGreatDoorRows.lean that lists a variable, with what it lists TIED to the program's text (the seventh form; the later family's looks); each row that meets fmt, with fmt's text TOLD by the authors' own Lean function (tested against real Go, not proved from fmt's source: count such statements apart). THE CARD IS WHAT COUNTS. Prove the row's statement (the work); the ties are given (YtainhpnmgligjaeGreatDoorTie.lean); close each card by the builder's one call (the guide's Derived/Test/ToyasCard.lean, 'card_holds'). Laid BY PROGRAM, IN A SANDBOX (cutbox-door.mjs). By AI agents, Wed Nov 11 2026. No macro, syntax, notation, axiom, sorry.
-/
import Derived.Test.YtainhpnmgligjaeGreatDoorRows
import GoSem.ClaimSeven
namespace Go.Proofs.YtainhpnmgligjaeGreatDoor
namespace Rows

/-- THE TIED CARD OF 'gnomonlaw.UsesTells'. -/
def usesTellsCard : Claim7 := { stood := { row := usesTellsRow, standIns := [], harness := (true, "862ff3be5d6eca3836013a10de011824eac7371c264e1696bbaca620d8034cd3"), looks := true }, kinds := [], alts := [], laidByText := true, laidKinds := [.data, .data, .pinned], laidTests := true, laidLooks := .later }
def UsesTellsCardSaid : Prop := Claim7.holds Tryz.pinned (.plain (OpenSpec.ofChange usesTellsSpec)) usesTellsCard

/-- THE TIED CARD OF 'gnomonlaw.UsesTrue'. -/
def usesTrueCard : Claim7 := { stood := { row := usesTrueRow, standIns := [], harness := (true, "862ff3be5d6eca3836013a10de011824eac7371c264e1696bbaca620d8034cd3"), looks := true }, kinds := [], alts := [], laidByText := true, laidKinds := [.data, .data, .pinned], laidTests := true, laidLooks := .later }
def UsesTrueCardSaid : Prop := Claim7.holds Tryz.pinned (.plain (OpenSpec.ofChange usesTrueSpec)) usesTrueCard

/-- THE TIED CARD OF 'gnomonlaw.UsesGone'. -/
def usesGoneCard : Claim7 := { stood := { row := usesGoneRow, standIns := [], harness := (true, "862ff3be5d6eca3836013a10de011824eac7371c264e1696bbaca620d8034cd3"), looks := true }, kinds := [], alts := [], laidByText := true, laidKinds := [.data, .data, .pinned], laidTests := true, laidLooks := .later }
def UsesGoneCardSaid : Prop := Claim7.holds Tryz.pinned (.plain (OpenSpec.ofChange usesGoneSpec)) usesGoneCard

/-- THE SECOND FORM's CARD OF 'gnomonlaw.UsesTells'. -/
def usesTellsUptoCard : Claim7 := { stood := { row := usesTellsUptoRow, standIns := [], harness := (true, "862ff3be5d6eca3836013a10de011824eac7371c264e1696bbaca620d8034cd3"), looks := true }, kinds := [], alts := [], laidByText := true, laidKinds := [.data, .data, .pinned], laidTests := true, laidLooks := .later }
def UsesTellsUptoCardSaid : Prop := Claim7.holds Tryz.pinned (.plain (OpenSpec.upto usesTellsSpec)) usesTellsUptoCard

/-- THE SECOND FORM's CARD OF 'gnomonlaw.UsesTrue'. -/
def usesTrueUptoCard : Claim7 := { stood := { row := usesTrueUptoRow, standIns := [], harness := (true, "862ff3be5d6eca3836013a10de011824eac7371c264e1696bbaca620d8034cd3"), looks := true }, kinds := [], alts := [], laidByText := true, laidKinds := [.data, .data, .pinned], laidTests := true, laidLooks := .later }
def UsesTrueUptoCardSaid : Prop := Claim7.holds Tryz.pinned (.plain (OpenSpec.upto usesTrueSpec)) usesTrueUptoCard

/-- THE SECOND FORM's CARD OF 'gnomonlaw.UsesGone'. -/
def usesGoneUptoCard : Claim7 := { stood := { row := usesGoneUptoRow, standIns := [], harness := (true, "862ff3be5d6eca3836013a10de011824eac7371c264e1696bbaca620d8034cd3"), looks := true }, kinds := [], alts := [], laidByText := true, laidKinds := [.data, .data, .pinned], laidTests := true, laidLooks := .later }
def UsesGoneUptoCardSaid : Prop := Claim7.holds Tryz.pinned (.plain (OpenSpec.upto usesGoneSpec)) usesGoneUptoCard
end Rows
end Go.Proofs.YtainhpnmgligjaeGreatDoor

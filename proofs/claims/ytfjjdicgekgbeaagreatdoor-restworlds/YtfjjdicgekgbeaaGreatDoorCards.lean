/-
  DERIVED. GIVEN WITH THE SEED: THE CARDS: each row of YtfjjdicgekgbeaaGreatDoorRows.lean that lists a variable, with what it lists TIED to the program's text (the seventh form; the later family's looks); each row that meets fmt, with fmt's text TOLD by the authors' own Lean function (tested against real Go, not proved from fmt's source: count such statements apart). THE CARD IS WHAT COUNTS. Prove the row's statement (the work); the ties are given (YtfjjdicgekgbeaaGreatDoorTie.lean); close each card by the builder's one call (the guide's Derived/Test/ToyasCard.lean, 'card_holds'). Laid BY PROGRAM, IN A SANDBOX (cutbox-door.mjs). By AI agents, Wed Nov 11 2026. No macro, syntax, notation, axiom, sorry.
-/
import Derived.Test.YtfjjdicgekgbeaaGreatDoorRows
import GoSem.ClaimSeven
namespace Go.Proofs.YtfjjdicgekgbeaaGreatDoor
namespace Rows

/-- THE TIED CARD OF 'gnomonlaw.RestWorlds'. -/
def restWorldsCard : Claim7 := { stood := { row := restWorldsRow, standIns := [], harness := (true, "b1f1036f0afbec7cf02c08d483adbb5b8aca4457c92a1195bfeaca0e0ca358c9"), looks := true }, kinds := [], alts := [], laidByText := true, laidKinds := [.data, .data, .data, .data, .data, .pinned], laidTests := true, laidLooks := .later }
def RestWorldsCardSaid : Prop := Claim7.holds Tryz.pinned (.plain (OpenSpec.ofChange restWorldsSpec)) restWorldsCard

/-- THE SECOND FORM's CARD OF 'gnomonlaw.RestWorlds'. -/
def restWorldsUptoCard : Claim7 := { stood := { row := restWorldsUptoRow, standIns := [], harness := (true, "b1f1036f0afbec7cf02c08d483adbb5b8aca4457c92a1195bfeaca0e0ca358c9"), looks := true }, kinds := [], alts := [], laidByText := true, laidKinds := [.data, .data, .data, .data, .data, .pinned], laidTests := true, laidLooks := .later }
def RestWorldsUptoCardSaid : Prop := Claim7.holds Tryz.pinned (.plain (OpenSpec.upto restWorldsSpec)) restWorldsUptoCard
end Rows
end Go.Proofs.YtfjjdicgekgbeaaGreatDoor

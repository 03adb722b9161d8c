/-
  DERIVED. GIVEN WITH THE SEED: THE CARDS: each row of YtlmhapbmebnmlabDoorRows.lean that lists a variable, with what it lists TIED to the program's text (the seventh form; the later family's looks); each row that meets fmt, with fmt's text TOLD by the authors' own Lean function (tested against real Go, not proved from fmt's source: count such statements apart). THE CARD IS WHAT COUNTS. Prove the row's statement (the work); the ties are given (YtlmhapbmebnmlabDoorTie.lean); close each card by the builder's one call (the guide's Derived/Test/ToyasCard.lean, 'card_holds'). Laid BY PROGRAM, IN A SANDBOX (cutbox-door.mjs). By AI agents, Wed Nov 11 2026. No macro, syntax, notation, axiom, sorry.
-/
import Derived.Test.YtlmhapbmebnmlabDoorRows
import GoSem.ClaimSeven
namespace Go.Proofs.YtlmhapbmebnmlabDoor
namespace Rows

/-- THE TIED CARD OF 'gnomonlaw.RulesTells'. -/
def rulesTellsCard : Claim7 := { stood := { row := rulesTellsRow, standIns := [], harness := (true, "81ae75950858920297edc3f4b4618250616ee293f47c6efb0c1270d9a805c256"), looks := false }, kinds := [], alts := [], laidByText := true, laidKinds := [.data], laidTests := true, laidLooks := .later }
def RulesTellsCardSaid : Prop := Claim7.holds Tryd.pinned (.plain (OpenSpec.ofChange rulesTellsSpec)) rulesTellsCard

/-- THE TIED CARD OF 'gnomonlaw.RulesLast'. -/
def rulesLastCard : Claim7 := { stood := { row := rulesLastRow, standIns := [], harness := (true, "81ae75950858920297edc3f4b4618250616ee293f47c6efb0c1270d9a805c256"), looks := false }, kinds := [], alts := [], laidByText := true, laidKinds := [.data], laidTests := true, laidLooks := .later }
def RulesLastCardSaid : Prop := Claim7.holds Tryd.pinned (.plain (OpenSpec.ofChange rulesLastSpec)) rulesLastCard

/-- THE TIED CARD OF 'gnomonlaw.RulesTrue'. -/
def rulesTrueCard : Claim7 := { stood := { row := rulesTrueRow, standIns := [], harness := (true, "81ae75950858920297edc3f4b4618250616ee293f47c6efb0c1270d9a805c256"), looks := false }, kinds := [], alts := [], laidByText := true, laidKinds := [.data], laidTests := true, laidLooks := .later }
def RulesTrueCardSaid : Prop := Claim7.holds Tryd.pinned (.plain (OpenSpec.ofChange rulesTrueSpec)) rulesTrueCard

/-- THE TIED CARD OF 'gnomonlaw.RulesLater'. -/
def rulesLaterCard : Claim7 := { stood := { row := rulesLaterRow, standIns := [], harness := (true, "81ae75950858920297edc3f4b4618250616ee293f47c6efb0c1270d9a805c256"), looks := false }, kinds := [], alts := [], laidByText := true, laidKinds := [.data], laidTests := true, laidLooks := .later }
def RulesLaterCardSaid : Prop := Claim7.holds Tryd.pinned (.plain (OpenSpec.ofChange rulesLaterSpec)) rulesLaterCard

/-- THE SECOND FORM's CARD OF 'gnomonlaw.RulesTells'. -/
def rulesTellsUptoCard : Claim7 := { stood := { row := rulesTellsUptoRow, standIns := [], harness := (true, "81ae75950858920297edc3f4b4618250616ee293f47c6efb0c1270d9a805c256"), looks := false }, kinds := [], alts := [], laidByText := true, laidKinds := [.data], laidTests := true, laidLooks := .later }
def RulesTellsUptoCardSaid : Prop := Claim7.holds Tryd.pinned (.plain (OpenSpec.upto rulesTellsSpec)) rulesTellsUptoCard

/-- THE SECOND FORM's CARD OF 'gnomonlaw.RulesLast'. -/
def rulesLastUptoCard : Claim7 := { stood := { row := rulesLastUptoRow, standIns := [], harness := (true, "81ae75950858920297edc3f4b4618250616ee293f47c6efb0c1270d9a805c256"), looks := false }, kinds := [], alts := [], laidByText := true, laidKinds := [.data], laidTests := true, laidLooks := .later }
def RulesLastUptoCardSaid : Prop := Claim7.holds Tryd.pinned (.plain (OpenSpec.upto rulesLastSpec)) rulesLastUptoCard

/-- THE SECOND FORM's CARD OF 'gnomonlaw.RulesTrue'. -/
def rulesTrueUptoCard : Claim7 := { stood := { row := rulesTrueUptoRow, standIns := [], harness := (true, "81ae75950858920297edc3f4b4618250616ee293f47c6efb0c1270d9a805c256"), looks := false }, kinds := [], alts := [], laidByText := true, laidKinds := [.data], laidTests := true, laidLooks := .later }
def RulesTrueUptoCardSaid : Prop := Claim7.holds Tryd.pinned (.plain (OpenSpec.upto rulesTrueSpec)) rulesTrueUptoCard

/-- THE SECOND FORM's CARD OF 'gnomonlaw.RulesLater'. -/
def rulesLaterUptoCard : Claim7 := { stood := { row := rulesLaterUptoRow, standIns := [], harness := (true, "81ae75950858920297edc3f4b4618250616ee293f47c6efb0c1270d9a805c256"), looks := false }, kinds := [], alts := [], laidByText := true, laidKinds := [.data], laidTests := true, laidLooks := .later }
def RulesLaterUptoCardSaid : Prop := Claim7.holds Tryd.pinned (.plain (OpenSpec.upto rulesLaterSpec)) rulesLaterUptoCard
end Rows
end Go.Proofs.YtlmhapbmebnmlabDoor

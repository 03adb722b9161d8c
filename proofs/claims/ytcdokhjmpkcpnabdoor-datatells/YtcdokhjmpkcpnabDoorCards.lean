/-
  DERIVED. GIVEN WITH THE SEED: THE CARDS: each row of YtcdokhjmpkcpnabDoorRows.lean that lists a variable, with what it lists TIED to the program's text (the seventh form; the later family's looks); each row that meets fmt, with fmt's text TOLD by the authors' own Lean function (tested against real Go, not proved from fmt's source: count such statements apart). THE CARD IS WHAT COUNTS. Prove the row's statement (the work); the ties are given (YtcdokhjmpkcpnabDoorTie.lean); close each card by the builder's one call (the guide's Derived/Test/ToyasCard.lean, 'card_holds'). Laid BY PROGRAM, IN A SANDBOX (cutbox-door.mjs). By AI agents, Wed Nov 11 2026. No macro, syntax, notation, axiom, sorry.
-/
import Derived.Test.YtcdokhjmpkcpnabDoorRows
import GoSem.ClaimSeven
namespace Go.Proofs.YtcdokhjmpkcpnabDoor
namespace Rows

/-- THE TIED CARD OF 'gnomonlaw.RulesTells'. -/
def rulesTellsCard : Claim7 := { stood := { row := rulesTellsRow, standIns := [], harness := (true, "32865face5c8aac453a4adbd18f5089516eac406da1d754f2b06da235a8e60ee"), looks := true }, kinds := [], alts := [], laidByText := true, laidKinds := [.data], laidTests := true, laidLooks := .later }
def RulesTellsCardSaid : Prop := Claim7.holds Tryd.pinned (.plain (OpenSpec.ofChange rulesTellsSpec)) rulesTellsCard

/-- THE TIED CARD OF 'gnomonlaw.RulesLast'. -/
def rulesLastCard : Claim7 := { stood := { row := rulesLastRow, standIns := [], harness := (true, "32865face5c8aac453a4adbd18f5089516eac406da1d754f2b06da235a8e60ee"), looks := true }, kinds := [], alts := [], laidByText := true, laidKinds := [.data], laidTests := true, laidLooks := .later }
def RulesLastCardSaid : Prop := Claim7.holds Tryd.pinned (.plain (OpenSpec.ofChange rulesLastSpec)) rulesLastCard

/-- THE TIED CARD OF 'gnomonlaw.RulesTrue'. -/
def rulesTrueCard : Claim7 := { stood := { row := rulesTrueRow, standIns := [], harness := (true, "32865face5c8aac453a4adbd18f5089516eac406da1d754f2b06da235a8e60ee"), looks := true }, kinds := [], alts := [], laidByText := true, laidKinds := [.data], laidTests := true, laidLooks := .later }
def RulesTrueCardSaid : Prop := Claim7.holds Tryd.pinned (.plain (OpenSpec.ofChange rulesTrueSpec)) rulesTrueCard

/-- THE TIED CARD OF 'gnomonlaw.RulesLater'. -/
def rulesLaterCard : Claim7 := { stood := { row := rulesLaterRow, standIns := [], harness := (true, "32865face5c8aac453a4adbd18f5089516eac406da1d754f2b06da235a8e60ee"), looks := true }, kinds := [], alts := [], laidByText := true, laidKinds := [.data], laidTests := true, laidLooks := .later }
def RulesLaterCardSaid : Prop := Claim7.holds Tryd.pinned (.plain (OpenSpec.ofChange rulesLaterSpec)) rulesLaterCard

/-- THE TIED CARD OF 'gnomonlaw.DataTells'. -/
def dataTellsCard : Claim7 := { stood := { row := dataTellsRow, standIns := [], harness := (true, "32865face5c8aac453a4adbd18f5089516eac406da1d754f2b06da235a8e60ee"), looks := true }, kinds := [], alts := [], laidByText := true, laidKinds := [.data, .data, .pinned], laidTests := true, laidLooks := .later }
def DataTellsCardSaid : Prop := Claim7.holds Tryd.pinned (.plain (OpenSpec.ofChange dataTellsSpec)) dataTellsCard

/-- THE TIED CARD OF 'gnomonlaw.DataLinks'. -/
def dataLinksCard : Claim7 := { stood := { row := dataLinksRow, standIns := [], harness := (true, "32865face5c8aac453a4adbd18f5089516eac406da1d754f2b06da235a8e60ee"), looks := true }, kinds := [], alts := [], laidByText := true, laidKinds := [.data, .data, .pinned], laidTests := true, laidLooks := .later }
def DataLinksCardSaid : Prop := Claim7.holds Tryd.pinned (.plain (OpenSpec.ofChange dataLinksSpec)) dataLinksCard

/-- THE SECOND FORM's CARD OF 'gnomonlaw.RulesTells'. -/
def rulesTellsUptoCard : Claim7 := { stood := { row := rulesTellsUptoRow, standIns := [], harness := (true, "32865face5c8aac453a4adbd18f5089516eac406da1d754f2b06da235a8e60ee"), looks := true }, kinds := [], alts := [], laidByText := true, laidKinds := [.data], laidTests := true, laidLooks := .later }
def RulesTellsUptoCardSaid : Prop := Claim7.holds Tryd.pinned (.plain (OpenSpec.upto rulesTellsSpec)) rulesTellsUptoCard

/-- THE SECOND FORM's CARD OF 'gnomonlaw.RulesLast'. -/
def rulesLastUptoCard : Claim7 := { stood := { row := rulesLastUptoRow, standIns := [], harness := (true, "32865face5c8aac453a4adbd18f5089516eac406da1d754f2b06da235a8e60ee"), looks := true }, kinds := [], alts := [], laidByText := true, laidKinds := [.data], laidTests := true, laidLooks := .later }
def RulesLastUptoCardSaid : Prop := Claim7.holds Tryd.pinned (.plain (OpenSpec.upto rulesLastSpec)) rulesLastUptoCard

/-- THE SECOND FORM's CARD OF 'gnomonlaw.RulesTrue'. -/
def rulesTrueUptoCard : Claim7 := { stood := { row := rulesTrueUptoRow, standIns := [], harness := (true, "32865face5c8aac453a4adbd18f5089516eac406da1d754f2b06da235a8e60ee"), looks := true }, kinds := [], alts := [], laidByText := true, laidKinds := [.data], laidTests := true, laidLooks := .later }
def RulesTrueUptoCardSaid : Prop := Claim7.holds Tryd.pinned (.plain (OpenSpec.upto rulesTrueSpec)) rulesTrueUptoCard

/-- THE SECOND FORM's CARD OF 'gnomonlaw.RulesLater'. -/
def rulesLaterUptoCard : Claim7 := { stood := { row := rulesLaterUptoRow, standIns := [], harness := (true, "32865face5c8aac453a4adbd18f5089516eac406da1d754f2b06da235a8e60ee"), looks := true }, kinds := [], alts := [], laidByText := true, laidKinds := [.data], laidTests := true, laidLooks := .later }
def RulesLaterUptoCardSaid : Prop := Claim7.holds Tryd.pinned (.plain (OpenSpec.upto rulesLaterSpec)) rulesLaterUptoCard

/-- THE SECOND FORM's CARD OF 'gnomonlaw.DataTells'. -/
def dataTellsUptoCard : Claim7 := { stood := { row := dataTellsUptoRow, standIns := [], harness := (true, "32865face5c8aac453a4adbd18f5089516eac406da1d754f2b06da235a8e60ee"), looks := true }, kinds := [], alts := [], laidByText := true, laidKinds := [.data, .data, .pinned], laidTests := true, laidLooks := .later }
def DataTellsUptoCardSaid : Prop := Claim7.holds Tryd.pinned (.plain (OpenSpec.upto dataTellsSpec)) dataTellsUptoCard

/-- THE SECOND FORM's CARD OF 'gnomonlaw.DataLinks'. -/
def dataLinksUptoCard : Claim7 := { stood := { row := dataLinksUptoRow, standIns := [], harness := (true, "32865face5c8aac453a4adbd18f5089516eac406da1d754f2b06da235a8e60ee"), looks := true }, kinds := [], alts := [], laidByText := true, laidKinds := [.data, .data, .pinned], laidTests := true, laidLooks := .later }
def DataLinksUptoCardSaid : Prop := Claim7.holds Tryd.pinned (.plain (OpenSpec.upto dataLinksSpec)) dataLinksUptoCard
end Rows
end Go.Proofs.YtcdokhjmpkcpnabDoor

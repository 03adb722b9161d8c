/-
  NARROWER THAN 'FOR EVERY INPUT', by the rows' own cells (each row's printed sentence says how): RulesTells: laid · RulesLast: laid · RulesTrue: laid · RulesLater: laid · DataTells: laid · DataLinks: laid.
  DERIVED. THE GIVEN ROWS OF THIS SEAT. 6 by the template 'for every input the law returns true; each argument reads behind the call as it read before'; 0 by the template 'total and deterministic' (their statements: YtcdokhjmpkcpnabDoorTotals.lean).
  GIVEN WITH THE SEED: the statements are not yours to turn. If you find one false, say at which input.
  Laid BY PROGRAM, IN A SANDBOX (cutbox-rows.mjs): the forced cells as the released guide's own fill.sh prints them over the translation efda0817087ce2d6… (all of the seat's roots in one cut). By AI agents, Wed Nov 11 2026. No macro, syntax, notation, axiom, sorry.
-/
import Derived.Test.YtcdokhjmpkcpnabDoorChecked
import GoSem.PinnedTables
import GoSem.Claim
import GoSem.ClaimJoined
import GoSem.ClaimMapViews
import Derived.JoinedTies
import Derived.KernelRfl
namespace Go.Proofs.YtcdokhjmpkcpnabDoor
/- THE CELL 'sum', in the pinned program and in every row, IS THE sha256 OF THE DUMP (.gsa) THAT YtcdokhjmpkcpnabDoorProg.lean LOADS. Nothing in Lean hashes anything: it is a label: what it is worth is what the hold of that sum in a sandbox is worth. -/
noncomputable def Tryd.pinned : Pinned := { name := "ytcdokhjmpkcpnabdoor", sum := "efda0817087ce2d634aa703e4d8ee4e127344f6d117de18f61cdbf6f0fef2d04", checked := Tryd.checked }
namespace Rows
def none {H : Type} : Left H := { results := [], args := [] }

/- WHAT THE LISTED PACKAGE-LEVEL VARIABLES READ AS WHEN THE CALL BEGINS. Each datum BY PROGRAM (the guide's laid-datum.mjs) off the statement by which the dump's own 'gosem.cut.vars' lays the variable. In a bare row this is a premise. The card (YtcdokhjmpkcpnabDoorCards.lean) ties it to the program's text. -/
def laid_gnomon_days_monthDays {H : Type} : DataW H := .agg [.lit (.int .i64 31), .lit (.int .i64 28), .lit (.int .i64 31), .lit (.int .i64 30), .lit (.int .i64 31), .lit (.int .i64 30), .lit (.int .i64 31), .lit (.int .i64 31), .lit (.int .i64 30), .lit (.int .i64 31), .lit (.int .i64 30), .lit (.int .i64 31)]
def laid_unicode_utf8_acceptRanges {H : Type} : DataW H := .agg [.agg [.lit (.int .u8 128), .lit (.int .u8 191)], .agg [.lit (.int .u8 160), .lit (.int .u8 191)], .agg [.lit (.int .u8 128), .lit (.int .u8 159)], .agg [.lit (.int .u8 144), .lit (.int .u8 191)], .agg [.lit (.int .u8 128), .lit (.int .u8 143)], .agg [.lit (.int .u8 0), .lit (.int .u8 0)], .agg [.lit (.int .u8 0), .lit (.int .u8 0)], .agg [.lit (.int .u8 0), .lit (.int .u8 0)], .agg [.lit (.int .u8 0), .lit (.int .u8 0)], .agg [.lit (.int .u8 0), .lit (.int .u8 0)], .agg [.lit (.int .u8 0), .lit (.int .u8 0)], .agg [.lit (.int .u8 0), .lit (.int .u8 0)], .agg [.lit (.int .u8 0), .lit (.int .u8 0)], .agg [.lit (.int .u8 0), .lit (.int .u8 0)], .agg [.lit (.int .u8 0), .lit (.int .u8 0)], .agg [.lit (.int .u8 0), .lit (.int .u8 0)]]
/-- One of Go's own tables, pinned by name: the form's constant. -/
def laid_unicode_utf8_first : DataW Unit := Go.Pinned.utf8First

/-- 'gnomonlaw.RulesTells': WHATEVER THE INPUT: true; the input reads as it did. -/
def rulesTellsSpec : ChangeSpec := { name := "rulesTells", fn := fun _ => fun
  | [d1, d2, d3] => { results := [.lit (.bool true)], args := [d1, d2, d3] }
  | _ => none }
def rulesTellsRow : OpenClaim := { program := "ytcdokhjmpkcpnabdoor", sum := "efda0817087ce2d634aa703e4d8ee4e127344f6d117de18f61cdbf6f0fef2d04", func := "gnomon/gnomonlaw.RulesTells", spec := "rulesTells", unfollowed := true, recurses := true, named := ["gnomon/days.monthDays"], apart := false, laid := [("gnomon/days.monthDays", laid_gnomon_days_monthDays)] }
def RulesTellsSaid : Prop := rulesTellsRow.holds Tryd.pinned (OpenSpec.ofChange rulesTellsSpec)

/-- ITS FALSE NEIGHBOUR: 'it returns false'. Refute it at one input. -/
def rulesTellsWrong : ChangeSpec := { name := "rulesTells", fn := fun _ => fun
  | [d1, d2, d3] => { results := [.lit (.bool false)], args := [d1, d2, d3] }
  | _ => none }
def RulesTellsWrongFalsely : Prop := rulesTellsRow.holds Tryd.pinned (OpenSpec.ofChange rulesTellsWrong)

/-- 'gnomonlaw.RulesLast': WHATEVER THE INPUT: true; the input reads as it did. -/
def rulesLastSpec : ChangeSpec := { name := "rulesLast", fn := fun _ => fun
  | [d1, d2, d3] => { results := [.lit (.bool true)], args := [d1, d2, d3] }
  | _ => none }
def rulesLastRow : OpenClaim := { program := "ytcdokhjmpkcpnabdoor", sum := "efda0817087ce2d634aa703e4d8ee4e127344f6d117de18f61cdbf6f0fef2d04", func := "gnomon/gnomonlaw.RulesLast", spec := "rulesLast", unfollowed := true, recurses := true, named := ["gnomon/days.monthDays"], apart := false, laid := [("gnomon/days.monthDays", laid_gnomon_days_monthDays)] }
def RulesLastSaid : Prop := rulesLastRow.holds Tryd.pinned (OpenSpec.ofChange rulesLastSpec)

/-- ITS FALSE NEIGHBOUR: 'it returns false'. Refute it at one input. -/
def rulesLastWrong : ChangeSpec := { name := "rulesLast", fn := fun _ => fun
  | [d1, d2, d3] => { results := [.lit (.bool false)], args := [d1, d2, d3] }
  | _ => none }
def RulesLastWrongFalsely : Prop := rulesLastRow.holds Tryd.pinned (OpenSpec.ofChange rulesLastWrong)

/-- 'gnomonlaw.RulesTrue': WHATEVER THE INPUT: true; the input reads as it did. -/
def rulesTrueSpec : ChangeSpec := { name := "rulesTrue", fn := fun _ => fun
  | [d1, d2, d3, d4, d5] => { results := [.lit (.bool true)], args := [d1, d2, d3, d4, d5] }
  | _ => none }
def rulesTrueRow : OpenClaim := { program := "ytcdokhjmpkcpnabdoor", sum := "efda0817087ce2d634aa703e4d8ee4e127344f6d117de18f61cdbf6f0fef2d04", func := "gnomon/gnomonlaw.RulesTrue", spec := "rulesTrue", unfollowed := true, recurses := true, named := ["gnomon/days.monthDays"], apart := false, laid := [("gnomon/days.monthDays", laid_gnomon_days_monthDays)] }
def RulesTrueSaid : Prop := rulesTrueRow.holds Tryd.pinned (OpenSpec.ofChange rulesTrueSpec)

/-- ITS FALSE NEIGHBOUR: 'it returns false'. Refute it at one input. -/
def rulesTrueWrong : ChangeSpec := { name := "rulesTrue", fn := fun _ => fun
  | [d1, d2, d3, d4, d5] => { results := [.lit (.bool false)], args := [d1, d2, d3, d4, d5] }
  | _ => none }
def RulesTrueWrongFalsely : Prop := rulesTrueRow.holds Tryd.pinned (OpenSpec.ofChange rulesTrueWrong)

/-- 'gnomonlaw.RulesLater': WHATEVER THE INPUT: true; the input reads as it did. -/
def rulesLaterSpec : ChangeSpec := { name := "rulesLater", fn := fun _ => fun
  | [d1, d2, d3, d4] => { results := [.lit (.bool true)], args := [d1, d2, d3, d4] }
  | _ => none }
def rulesLaterRow : OpenClaim := { program := "ytcdokhjmpkcpnabdoor", sum := "efda0817087ce2d634aa703e4d8ee4e127344f6d117de18f61cdbf6f0fef2d04", func := "gnomon/gnomonlaw.RulesLater", spec := "rulesLater", unfollowed := true, recurses := true, named := ["gnomon/days.monthDays"], apart := false, laid := [("gnomon/days.monthDays", laid_gnomon_days_monthDays)] }
def RulesLaterSaid : Prop := rulesLaterRow.holds Tryd.pinned (OpenSpec.ofChange rulesLaterSpec)

/-- ITS FALSE NEIGHBOUR: 'it returns false'. Refute it at one input. -/
def rulesLaterWrong : ChangeSpec := { name := "rulesLater", fn := fun _ => fun
  | [d1, d2, d3, d4] => { results := [.lit (.bool false)], args := [d1, d2, d3, d4] }
  | _ => none }
def RulesLaterWrongFalsely : Prop := rulesLaterRow.holds Tryd.pinned (OpenSpec.ofChange rulesLaterWrong)

/-- 'gnomonlaw.DataTells': WHATEVER THE INPUT: true; the input reads as it did. -/
def dataTellsSpec : ChangeSpec := { name := "dataTells", fn := fun _ => fun
  | [d1, d2] => { results := [.lit (.bool true)], args := [d1, d2] }
  | _ => none }
def dataTellsRow : OpenClaim := { program := "ytcdokhjmpkcpnabdoor", sum := "efda0817087ce2d634aa703e4d8ee4e127344f6d117de18f61cdbf6f0fef2d04", func := "gnomon/gnomonlaw.DataTells", spec := "dataTells", inPlace := ["internal/bytealg.IndexByteString", "internal/bytealg.CountString", "internal/bytealg.IndexString", "internal/abi.NoEscape", "internal/bytealg.MakeNoZero"], unfollowed := true, recurses := true, named := ["gnomon/days.monthDays", "internal/bytealg.MaxLen", "unicode/utf8.first", "unicode/utf8.acceptRanges"], apart := false, laid := [("gnomon/days.monthDays", laid_gnomon_days_monthDays), ("unicode/utf8.acceptRanges", laid_unicode_utf8_acceptRanges), ("unicode/utf8.first", laid_unicode_utf8_first)] }
def DataTellsSaid : Prop := dataTellsRow.holds Tryd.pinned (OpenSpec.ofChange dataTellsSpec)

/-- ITS FALSE NEIGHBOUR: 'it returns false'. Refute it at one input. -/
def dataTellsWrong : ChangeSpec := { name := "dataTells", fn := fun _ => fun
  | [d1, d2] => { results := [.lit (.bool false)], args := [d1, d2] }
  | _ => none }
def DataTellsWrongFalsely : Prop := dataTellsRow.holds Tryd.pinned (OpenSpec.ofChange dataTellsWrong)

/-- 'gnomonlaw.DataLinks': WHATEVER THE INPUT: true; the input reads as it did. -/
def dataLinksSpec : ChangeSpec := { name := "dataLinks", fn := fun _ => fun
  | [d1, d2] => { results := [.lit (.bool true)], args := [d1, d2] }
  | _ => none }
def dataLinksRow : OpenClaim := { program := "ytcdokhjmpkcpnabdoor", sum := "efda0817087ce2d634aa703e4d8ee4e127344f6d117de18f61cdbf6f0fef2d04", func := "gnomon/gnomonlaw.DataLinks", spec := "dataLinks", inPlace := ["internal/bytealg.IndexByteString", "internal/bytealg.CountString", "internal/bytealg.IndexString", "internal/abi.NoEscape", "internal/bytealg.MakeNoZero"], unfollowed := true, recurses := true, named := ["gnomon/days.monthDays", "internal/bytealg.MaxLen", "unicode/utf8.first", "unicode/utf8.acceptRanges"], apart := false, laid := [("gnomon/days.monthDays", laid_gnomon_days_monthDays), ("unicode/utf8.acceptRanges", laid_unicode_utf8_acceptRanges), ("unicode/utf8.first", laid_unicode_utf8_first)] }
def DataLinksSaid : Prop := dataLinksRow.holds Tryd.pinned (OpenSpec.ofChange dataLinksSpec)

/-- ITS FALSE NEIGHBOUR: 'it returns false'. Refute it at one input. -/
def dataLinksWrong : ChangeSpec := { name := "dataLinks", fn := fun _ => fun
  | [d1, d2] => { results := [.lit (.bool false)], args := [d1, d2] }
  | _ => none }
def DataLinksWrongFalsely : Prop := dataLinksRow.holds Tryd.pinned (OpenSpec.ofChange dataLinksWrong)

/- THE SECOND FORM. 'bulk': how many values and letters a reading holds, each counted each time it is reached (what is shared counts as often as it is met; a slice's spare places count too). A statement '..UptoSaid' is the law's where the arguments, and the package variables that the reading takes, are together of bulk at most 1048576: NARROWER than '..Said'. Prove '..Said' where nothing that the law and all that it calls make is longer than what came in: it says more and counts as full. Else prove '..UptoSaid'. A law counts once. -/
mutual
def uptoBulk {H : Type} : DataW H → Nat
  | .lit (.string bytes) => bytes.length + 1
  | .lit _ => 1
  | .nil => 1
  | .ptr d => uptoBulk d + 1
  | .slice elems spare => uptoBulkAll elems + uptoBulkAll spare + 1
  | .agg parts => uptoBulkAll parts + 1
  | .iface _ d => uptoBulk d + 1
  | .map entries => uptoBulkEntries entries + 1
  | .held _ => 1
def uptoBulkAll {H : Type} : List (DataW H) → Nat
  | [] => 0
  | d :: r => uptoBulk d + uptoBulkAll r
def uptoBulkEntries {H : Type} : List (Lit × DataW H) → Nat
  | [] => 0
  | x :: r => uptoBulkEntry x + uptoBulkEntries r
def uptoBulkEntry {H : Type} : Lit × DataW H → Nat
  | (.string bytes, d) => bytes.length + uptoBulk d + 1
  | (_, d) => uptoBulk d + 1
 end
def uptoSmall : (H : Type) → List (DataW H) → Bool := fun _ ds => decide (uptoBulkAll ds ≤ 1048576)
def OpenSpec.upto (s : _root_.Go.ChangeSpec) : _root_.Go.OpenSpec := { _root_.Go.OpenSpec.ofChange s with cond := some uptoSmall }

/-- 'gnomonlaw.RulesTells', WHERE WHAT IT READS IS OF BULK AT MOST 1048576: true; the input reads as it did. -/
def rulesTellsUptoRow : OpenClaim := { program := "ytcdokhjmpkcpnabdoor", sum := "efda0817087ce2d634aa703e4d8ee4e127344f6d117de18f61cdbf6f0fef2d04", func := "gnomon/gnomonlaw.RulesTells", spec := "rulesTells", unfollowed := true, recurses := true, named := ["gnomon/days.monthDays"], apart := false, laid := [("gnomon/days.monthDays", laid_gnomon_days_monthDays)], narrowed := true }
def RulesTellsUptoSaid : Prop := rulesTellsUptoRow.holds Tryd.pinned (OpenSpec.upto rulesTellsSpec)

/-- 'gnomonlaw.RulesLast', WHERE WHAT IT READS IS OF BULK AT MOST 1048576: true; the input reads as it did. -/
def rulesLastUptoRow : OpenClaim := { program := "ytcdokhjmpkcpnabdoor", sum := "efda0817087ce2d634aa703e4d8ee4e127344f6d117de18f61cdbf6f0fef2d04", func := "gnomon/gnomonlaw.RulesLast", spec := "rulesLast", unfollowed := true, recurses := true, named := ["gnomon/days.monthDays"], apart := false, laid := [("gnomon/days.monthDays", laid_gnomon_days_monthDays)], narrowed := true }
def RulesLastUptoSaid : Prop := rulesLastUptoRow.holds Tryd.pinned (OpenSpec.upto rulesLastSpec)

/-- 'gnomonlaw.RulesTrue', WHERE WHAT IT READS IS OF BULK AT MOST 1048576: true; the input reads as it did. -/
def rulesTrueUptoRow : OpenClaim := { program := "ytcdokhjmpkcpnabdoor", sum := "efda0817087ce2d634aa703e4d8ee4e127344f6d117de18f61cdbf6f0fef2d04", func := "gnomon/gnomonlaw.RulesTrue", spec := "rulesTrue", unfollowed := true, recurses := true, named := ["gnomon/days.monthDays"], apart := false, laid := [("gnomon/days.monthDays", laid_gnomon_days_monthDays)], narrowed := true }
def RulesTrueUptoSaid : Prop := rulesTrueUptoRow.holds Tryd.pinned (OpenSpec.upto rulesTrueSpec)

/-- 'gnomonlaw.RulesLater', WHERE WHAT IT READS IS OF BULK AT MOST 1048576: true; the input reads as it did. -/
def rulesLaterUptoRow : OpenClaim := { program := "ytcdokhjmpkcpnabdoor", sum := "efda0817087ce2d634aa703e4d8ee4e127344f6d117de18f61cdbf6f0fef2d04", func := "gnomon/gnomonlaw.RulesLater", spec := "rulesLater", unfollowed := true, recurses := true, named := ["gnomon/days.monthDays"], apart := false, laid := [("gnomon/days.monthDays", laid_gnomon_days_monthDays)], narrowed := true }
def RulesLaterUptoSaid : Prop := rulesLaterUptoRow.holds Tryd.pinned (OpenSpec.upto rulesLaterSpec)

/-- 'gnomonlaw.DataTells', WHERE WHAT IT READS IS OF BULK AT MOST 1048576: true; the input reads as it did. -/
def dataTellsUptoRow : OpenClaim := { program := "ytcdokhjmpkcpnabdoor", sum := "efda0817087ce2d634aa703e4d8ee4e127344f6d117de18f61cdbf6f0fef2d04", func := "gnomon/gnomonlaw.DataTells", spec := "dataTells", inPlace := ["internal/bytealg.IndexByteString", "internal/bytealg.CountString", "internal/bytealg.IndexString", "internal/abi.NoEscape", "internal/bytealg.MakeNoZero"], unfollowed := true, recurses := true, named := ["gnomon/days.monthDays", "internal/bytealg.MaxLen", "unicode/utf8.first", "unicode/utf8.acceptRanges"], apart := false, laid := [("gnomon/days.monthDays", laid_gnomon_days_monthDays), ("unicode/utf8.acceptRanges", laid_unicode_utf8_acceptRanges), ("unicode/utf8.first", laid_unicode_utf8_first)], narrowed := true }
def DataTellsUptoSaid : Prop := dataTellsUptoRow.holds Tryd.pinned (OpenSpec.upto dataTellsSpec)

/-- 'gnomonlaw.DataLinks', WHERE WHAT IT READS IS OF BULK AT MOST 1048576: true; the input reads as it did. -/
def dataLinksUptoRow : OpenClaim := { program := "ytcdokhjmpkcpnabdoor", sum := "efda0817087ce2d634aa703e4d8ee4e127344f6d117de18f61cdbf6f0fef2d04", func := "gnomon/gnomonlaw.DataLinks", spec := "dataLinks", inPlace := ["internal/bytealg.IndexByteString", "internal/bytealg.CountString", "internal/bytealg.IndexString", "internal/abi.NoEscape", "internal/bytealg.MakeNoZero"], unfollowed := true, recurses := true, named := ["gnomon/days.monthDays", "internal/bytealg.MaxLen", "unicode/utf8.first", "unicode/utf8.acceptRanges"], apart := false, laid := [("gnomon/days.monthDays", laid_gnomon_days_monthDays), ("unicode/utf8.acceptRanges", laid_unicode_utf8_acceptRanges), ("unicode/utf8.first", laid_unicode_utf8_first)], narrowed := true }
def DataLinksUptoSaid : Prop := dataLinksUptoRow.holds Tryd.pinned (OpenSpec.upto dataLinksSpec)

end Rows
end Go.Proofs.YtcdokhjmpkcpnabDoor

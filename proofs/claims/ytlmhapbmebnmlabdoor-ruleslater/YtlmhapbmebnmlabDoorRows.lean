/-
  NARROWER THAN 'FOR EVERY INPUT', by the rows' own cells (each row's printed sentence says how): RulesTells: laid · RulesLast: laid · RulesTrue: laid · RulesLater: laid.
  DERIVED. THE GIVEN ROWS OF THIS SEAT. 4 by the template 'for every input the law returns true; each argument reads behind the call as it read before'; 0 by the template 'total and deterministic' (their statements: YtlmhapbmebnmlabDoorTotals.lean).
  GIVEN WITH THE SEED: the statements are not yours to turn. If you find one false, say at which input.
  Laid BY PROGRAM, IN A SANDBOX (cutbox-rows.mjs): the forced cells as the released guide's own fill.sh prints them over the translation f116460da55de40a… (all of the seat's roots in one cut). By AI agents, Wed Nov 11 2026. No macro, syntax, notation, axiom, sorry.
-/
import Derived.Test.YtlmhapbmebnmlabDoorChecked
import GoSem.Claim
import GoSem.ClaimJoined
import GoSem.ClaimMapViews
import Derived.JoinedTies
import Derived.KernelRfl
namespace Go.Proofs.YtlmhapbmebnmlabDoor
/- THE CELL 'sum', in the pinned program and in every row, IS THE sha256 OF THE DUMP (.gsa) THAT YtlmhapbmebnmlabDoorProg.lean LOADS. Nothing in Lean hashes anything: it is a label: what it is worth is what the hold of that sum in a sandbox is worth. -/
noncomputable def Tryd.pinned : Pinned := { name := "ytlmhapbmebnmlabdoor", sum := "f116460da55de40a19552f4b4ab609194909bfa8831d3647d9cc4fb2160c3489", checked := Tryd.checked }
namespace Rows
def none {H : Type} : Left H := { results := [], args := [] }

/- WHAT THE LISTED PACKAGE-LEVEL VARIABLES READ AS WHEN THE CALL BEGINS. Each datum BY PROGRAM (the guide's laid-datum.mjs) off the statement by which the dump's own 'gosem.cut.vars' lays the variable. In a bare row this is a premise. The card (YtlmhapbmebnmlabDoorCards.lean) ties it to the program's text. -/
def laid_gnomon_days_monthDays {H : Type} : DataW H := .agg [.lit (.int .i64 31), .lit (.int .i64 28), .lit (.int .i64 31), .lit (.int .i64 30), .lit (.int .i64 31), .lit (.int .i64 30), .lit (.int .i64 31), .lit (.int .i64 31), .lit (.int .i64 30), .lit (.int .i64 31), .lit (.int .i64 30), .lit (.int .i64 31)]

/-- 'gnomonlaw.RulesTells': WHATEVER THE INPUT: true; the input reads as it did. -/
def rulesTellsSpec : ChangeSpec := { name := "rulesTells", fn := fun _ => fun
  | [d1, d2, d3] => { results := [.lit (.bool true)], args := [d1, d2, d3] }
  | _ => none }
def rulesTellsRow : OpenClaim := { program := "ytlmhapbmebnmlabdoor", sum := "f116460da55de40a19552f4b4ab609194909bfa8831d3647d9cc4fb2160c3489", func := "gnomon/gnomonlaw.RulesTells", spec := "rulesTells", unfollowed := true, recurses := true, named := ["gnomon/days.monthDays"], apart := false, laid := [("gnomon/days.monthDays", laid_gnomon_days_monthDays)] }
def RulesTellsSaid : Prop := rulesTellsRow.holds Tryd.pinned (OpenSpec.ofChange rulesTellsSpec)

/-- ITS FALSE NEIGHBOUR: 'it returns false'. Refute it at one input. -/
def rulesTellsWrong : ChangeSpec := { name := "rulesTells", fn := fun _ => fun
  | [d1, d2, d3] => { results := [.lit (.bool false)], args := [d1, d2, d3] }
  | _ => none }
def RulesTellsWrongFalsely : Prop := rulesTellsRow.holds Tryd.pinned (OpenSpec.ofChange rulesTellsWrong)

/-- 'gnomonlaw.RulesLast': WHATEVER THE INPUT: true; the input reads as it did. -/
def rulesLastSpec : ChangeSpec := { name := "rulesLast", fn := fun _ => fun
  | [d1, d2, d3] => { results := [.lit (.bool true)], args := [d1, d2, d3] }
  | _ => none }
def rulesLastRow : OpenClaim := { program := "ytlmhapbmebnmlabdoor", sum := "f116460da55de40a19552f4b4ab609194909bfa8831d3647d9cc4fb2160c3489", func := "gnomon/gnomonlaw.RulesLast", spec := "rulesLast", unfollowed := true, recurses := true, named := ["gnomon/days.monthDays"], apart := false, laid := [("gnomon/days.monthDays", laid_gnomon_days_monthDays)] }
def RulesLastSaid : Prop := rulesLastRow.holds Tryd.pinned (OpenSpec.ofChange rulesLastSpec)

/-- ITS FALSE NEIGHBOUR: 'it returns false'. Refute it at one input. -/
def rulesLastWrong : ChangeSpec := { name := "rulesLast", fn := fun _ => fun
  | [d1, d2, d3] => { results := [.lit (.bool false)], args := [d1, d2, d3] }
  | _ => none }
def RulesLastWrongFalsely : Prop := rulesLastRow.holds Tryd.pinned (OpenSpec.ofChange rulesLastWrong)

/-- 'gnomonlaw.RulesTrue': WHATEVER THE INPUT: true; the input reads as it did. -/
def rulesTrueSpec : ChangeSpec := { name := "rulesTrue", fn := fun _ => fun
  | [d1, d2, d3, d4, d5] => { results := [.lit (.bool true)], args := [d1, d2, d3, d4, d5] }
  | _ => none }
def rulesTrueRow : OpenClaim := { program := "ytlmhapbmebnmlabdoor", sum := "f116460da55de40a19552f4b4ab609194909bfa8831d3647d9cc4fb2160c3489", func := "gnomon/gnomonlaw.RulesTrue", spec := "rulesTrue", unfollowed := true, recurses := true, named := ["gnomon/days.monthDays"], apart := false, laid := [("gnomon/days.monthDays", laid_gnomon_days_monthDays)] }
def RulesTrueSaid : Prop := rulesTrueRow.holds Tryd.pinned (OpenSpec.ofChange rulesTrueSpec)

/-- ITS FALSE NEIGHBOUR: 'it returns false'. Refute it at one input. -/
def rulesTrueWrong : ChangeSpec := { name := "rulesTrue", fn := fun _ => fun
  | [d1, d2, d3, d4, d5] => { results := [.lit (.bool false)], args := [d1, d2, d3, d4, d5] }
  | _ => none }
def RulesTrueWrongFalsely : Prop := rulesTrueRow.holds Tryd.pinned (OpenSpec.ofChange rulesTrueWrong)

/-- 'gnomonlaw.RulesLater': WHATEVER THE INPUT: true; the input reads as it did. -/
def rulesLaterSpec : ChangeSpec := { name := "rulesLater", fn := fun _ => fun
  | [d1, d2, d3, d4] => { results := [.lit (.bool true)], args := [d1, d2, d3, d4] }
  | _ => none }
def rulesLaterRow : OpenClaim := { program := "ytlmhapbmebnmlabdoor", sum := "f116460da55de40a19552f4b4ab609194909bfa8831d3647d9cc4fb2160c3489", func := "gnomon/gnomonlaw.RulesLater", spec := "rulesLater", unfollowed := true, recurses := true, named := ["gnomon/days.monthDays"], apart := false, laid := [("gnomon/days.monthDays", laid_gnomon_days_monthDays)] }
def RulesLaterSaid : Prop := rulesLaterRow.holds Tryd.pinned (OpenSpec.ofChange rulesLaterSpec)

/-- ITS FALSE NEIGHBOUR: 'it returns false'. Refute it at one input. -/
def rulesLaterWrong : ChangeSpec := { name := "rulesLater", fn := fun _ => fun
  | [d1, d2, d3, d4] => { results := [.lit (.bool false)], args := [d1, d2, d3, d4] }
  | _ => none }
def RulesLaterWrongFalsely : Prop := rulesLaterRow.holds Tryd.pinned (OpenSpec.ofChange rulesLaterWrong)

/- THE SECOND FORM. 'bulk': how many values and letters a reading holds, each counted each time it is reached (what is shared counts as often as it is met; a slice's spare places count too). A statement '..UptoSaid' is the law's where the arguments, and the package variables that the reading takes, are together of bulk at most 1048576: NARROWER than '..Said'. Prove '..Said' where nothing that the law and all that it calls make is longer than what came in: it says more and counts as full. Else prove '..UptoSaid'. A law counts once. -/
mutual
def uptoBulk {H : Type} : DataW H → Nat
  | .lit (.string bytes) => bytes.length + 1
  | .lit _ => 1
  | .nil => 1
  | .ptr d => uptoBulk d + 1
  | .slice elems spare => uptoBulkAll elems + uptoBulkAll spare + 1
  | .agg parts => uptoBulkAll parts + 1
  | .iface _ d => uptoBulk d + 1
  | .map entries => uptoBulkEntries entries + 1
  | .held _ => 1
def uptoBulkAll {H : Type} : List (DataW H) → Nat
  | [] => 0
  | d :: r => uptoBulk d + uptoBulkAll r
def uptoBulkEntries {H : Type} : List (Lit × DataW H) → Nat
  | [] => 0
  | x :: r => uptoBulkEntry x + uptoBulkEntries r
def uptoBulkEntry {H : Type} : Lit × DataW H → Nat
  | (.string bytes, d) => bytes.length + uptoBulk d + 1
  | (_, d) => uptoBulk d + 1
 end
def uptoSmall : (H : Type) → List (DataW H) → Bool := fun _ ds => decide (uptoBulkAll ds ≤ 1048576)
def OpenSpec.upto (s : _root_.Go.ChangeSpec) : _root_.Go.OpenSpec := { _root_.Go.OpenSpec.ofChange s with cond := some uptoSmall }

/-- 'gnomonlaw.RulesTells', WHERE WHAT IT READS IS OF BULK AT MOST 1048576: true; the input reads as it did. -/
def rulesTellsUptoRow : OpenClaim := { program := "ytlmhapbmebnmlabdoor", sum := "f116460da55de40a19552f4b4ab609194909bfa8831d3647d9cc4fb2160c3489", func := "gnomon/gnomonlaw.RulesTells", spec := "rulesTells", unfollowed := true, recurses := true, named := ["gnomon/days.monthDays"], apart := false, laid := [("gnomon/days.monthDays", laid_gnomon_days_monthDays)], narrowed := true }
def RulesTellsUptoSaid : Prop := rulesTellsUptoRow.holds Tryd.pinned (OpenSpec.upto rulesTellsSpec)

/-- 'gnomonlaw.RulesLast', WHERE WHAT IT READS IS OF BULK AT MOST 1048576: true; the input reads as it did. -/
def rulesLastUptoRow : OpenClaim := { program := "ytlmhapbmebnmlabdoor", sum := "f116460da55de40a19552f4b4ab609194909bfa8831d3647d9cc4fb2160c3489", func := "gnomon/gnomonlaw.RulesLast", spec := "rulesLast", unfollowed := true, recurses := true, named := ["gnomon/days.monthDays"], apart := false, laid := [("gnomon/days.monthDays", laid_gnomon_days_monthDays)], narrowed := true }
def RulesLastUptoSaid : Prop := rulesLastUptoRow.holds Tryd.pinned (OpenSpec.upto rulesLastSpec)

/-- 'gnomonlaw.RulesTrue', WHERE WHAT IT READS IS OF BULK AT MOST 1048576: true; the input reads as it did. -/
def rulesTrueUptoRow : OpenClaim := { program := "ytlmhapbmebnmlabdoor", sum := "f116460da55de40a19552f4b4ab609194909bfa8831d3647d9cc4fb2160c3489", func := "gnomon/gnomonlaw.RulesTrue", spec := "rulesTrue", unfollowed := true, recurses := true, named := ["gnomon/days.monthDays"], apart := false, laid := [("gnomon/days.monthDays", laid_gnomon_days_monthDays)], narrowed := true }
def RulesTrueUptoSaid : Prop := rulesTrueUptoRow.holds Tryd.pinned (OpenSpec.upto rulesTrueSpec)

/-- 'gnomonlaw.RulesLater', WHERE WHAT IT READS IS OF BULK AT MOST 1048576: true; the input reads as it did. -/
def rulesLaterUptoRow : OpenClaim := { program := "ytlmhapbmebnmlabdoor", sum := "f116460da55de40a19552f4b4ab609194909bfa8831d3647d9cc4fb2160c3489", func := "gnomon/gnomonlaw.RulesLater", spec := "rulesLater", unfollowed := true, recurses := true, named := ["gnomon/days.monthDays"], apart := false, laid := [("gnomon/days.monthDays", laid_gnomon_days_monthDays)], narrowed := true }
def RulesLaterUptoSaid : Prop := rulesLaterUptoRow.holds Tryd.pinned (OpenSpec.upto rulesLaterSpec)

end Rows
end Go.Proofs.YtlmhapbmebnmlabDoor

/-
  NARROWER THAN 'FOR EVERY INPUT', by the rows' own cells (each row's printed sentence says how): DaysTells: laid · DaysBack: laid · DaysYear: laid · PickTells: laid · PickTrue: laid · PickAgain: laid.
  DERIVED. THE GIVEN ROWS OF THIS SEAT. 6 by the template 'for every input the law returns true; each argument reads behind the call as it read before'; 0 by the template 'total and deterministic' (their statements: YtlmhapbmebnmlaaDoorTotals.lean).
  GIVEN WITH THE SEED: the statements are not yours to turn. If you find one false, say at which input.
  Laid BY PROGRAM, IN A SANDBOX (cutbox-rows.mjs): the forced cells as the released guide's own fill.sh prints them over the translation 47159a7179485a22… (all of the seat's roots in one cut). By AI agents, Wed Nov 11 2026. No macro, syntax, notation, axiom, sorry.
-/
import Derived.Test.YtlmhapbmebnmlaaDoorChecked
import GoSem.Claim
import GoSem.ClaimJoined
import GoSem.ClaimMapViews
import Derived.JoinedTies
import Derived.KernelRfl
namespace Go.Proofs.YtlmhapbmebnmlaaDoor
/- THE CELL 'sum', in the pinned program and in every row, IS THE sha256 OF THE DUMP (.gsa) THAT YtlmhapbmebnmlaaDoorProg.lean LOADS. Nothing in Lean hashes anything: it is a label: what it is worth is what the hold of that sum in a sandbox is worth. -/
noncomputable def Tryd.pinned : Pinned := { name := "ytlmhapbmebnmlaadoor", sum := "47159a7179485a2206c523759ded8be8ecbe1e6fadfffc97e3eaede54391d0e4", checked := Tryd.checked }
namespace Rows
def none {H : Type} : Left H := { results := [], args := [] }

/- WHAT THE LISTED PACKAGE-LEVEL VARIABLES READ AS WHEN THE CALL BEGINS. Each datum BY PROGRAM (the guide's laid-datum.mjs) off the statement by which the dump's own 'gosem.cut.vars' lays the variable. In a bare row this is a premise. The card (YtlmhapbmebnmlaaDoorCards.lean) ties it to the program's text. -/
def laid_gnomon_days_monthDays {H : Type} : DataW H := .agg [.lit (.int .i64 31), .lit (.int .i64 28), .lit (.int .i64 31), .lit (.int .i64 30), .lit (.int .i64 31), .lit (.int .i64 30), .lit (.int .i64 31), .lit (.int .i64 31), .lit (.int .i64 30), .lit (.int .i64 31), .lit (.int .i64 30), .lit (.int .i64 31)]

/-- 'gnomonlaw.DaysTells': WHATEVER THE INPUT: true; the input reads as it did. -/
def daysTellsSpec : ChangeSpec := { name := "daysTells", fn := fun _ => fun
  | [d1, d2, d3, d4] => { results := [.lit (.bool true)], args := [d1, d2, d3, d4] }
  | _ => none }
def daysTellsRow : OpenClaim := { program := "ytlmhapbmebnmlaadoor", sum := "47159a7179485a2206c523759ded8be8ecbe1e6fadfffc97e3eaede54391d0e4", func := "gnomon/gnomonlaw.DaysTells", spec := "daysTells", named := ["gnomon/days.monthDays"], apart := false, laid := [("gnomon/days.monthDays", laid_gnomon_days_monthDays)] }
def DaysTellsSaid : Prop := daysTellsRow.holds Tryd.pinned (OpenSpec.ofChange daysTellsSpec)

/-- ITS FALSE NEIGHBOUR: 'it returns false'. Refute it at one input. -/
def daysTellsWrong : ChangeSpec := { name := "daysTells", fn := fun _ => fun
  | [d1, d2, d3, d4] => { results := [.lit (.bool false)], args := [d1, d2, d3, d4] }
  | _ => none }
def DaysTellsWrongFalsely : Prop := daysTellsRow.holds Tryd.pinned (OpenSpec.ofChange daysTellsWrong)

/-- 'gnomonlaw.DaysBack': WHATEVER THE INPUT: true; the input reads as it did. -/
def daysBackSpec : ChangeSpec := { name := "daysBack", fn := fun _ => fun
  | [d1, d2, d3, d4] => { results := [.lit (.bool true)], args := [d1, d2, d3, d4] }
  | _ => none }
def daysBackRow : OpenClaim := { program := "ytlmhapbmebnmlaadoor", sum := "47159a7179485a2206c523759ded8be8ecbe1e6fadfffc97e3eaede54391d0e4", func := "gnomon/gnomonlaw.DaysBack", spec := "daysBack", named := ["gnomon/days.monthDays"], apart := false, laid := [("gnomon/days.monthDays", laid_gnomon_days_monthDays)] }
def DaysBackSaid : Prop := daysBackRow.holds Tryd.pinned (OpenSpec.ofChange daysBackSpec)

/-- ITS FALSE NEIGHBOUR: 'it returns false'. Refute it at one input. -/
def daysBackWrong : ChangeSpec := { name := "daysBack", fn := fun _ => fun
  | [d1, d2, d3, d4] => { results := [.lit (.bool false)], args := [d1, d2, d3, d4] }
  | _ => none }
def DaysBackWrongFalsely : Prop := daysBackRow.holds Tryd.pinned (OpenSpec.ofChange daysBackWrong)

/-- 'gnomonlaw.DaysYear': WHATEVER THE INPUT: true; the input reads as it did. -/
def daysYearSpec : ChangeSpec := { name := "daysYear", fn := fun _ => fun
  | [d1, d2, d3] => { results := [.lit (.bool true)], args := [d1, d2, d3] }
  | _ => none }
def daysYearRow : OpenClaim := { program := "ytlmhapbmebnmlaadoor", sum := "47159a7179485a2206c523759ded8be8ecbe1e6fadfffc97e3eaede54391d0e4", func := "gnomon/gnomonlaw.DaysYear", spec := "daysYear", named := ["gnomon/days.monthDays"], apart := false, laid := [("gnomon/days.monthDays", laid_gnomon_days_monthDays)] }
def DaysYearSaid : Prop := daysYearRow.holds Tryd.pinned (OpenSpec.ofChange daysYearSpec)

/-- ITS FALSE NEIGHBOUR: 'it returns false'. Refute it at one input. -/
def daysYearWrong : ChangeSpec := { name := "daysYear", fn := fun _ => fun
  | [d1, d2, d3] => { results := [.lit (.bool false)], args := [d1, d2, d3] }
  | _ => none }
def DaysYearWrongFalsely : Prop := daysYearRow.holds Tryd.pinned (OpenSpec.ofChange daysYearWrong)

/-- 'gnomonlaw.PickTells': WHATEVER THE INPUT: true; the input reads as it did. -/
def pickTellsSpec : ChangeSpec := { name := "pickTells", fn := fun _ => fun
  | [d1, d2, d3] => { results := [.lit (.bool true)], args := [d1, d2, d3] }
  | _ => none }
def pickTellsRow : OpenClaim := { program := "ytlmhapbmebnmlaadoor", sum := "47159a7179485a2206c523759ded8be8ecbe1e6fadfffc97e3eaede54391d0e4", func := "gnomon/gnomonlaw.PickTells", spec := "pickTells", unfollowed := true, recurses := true, named := ["gnomon/days.monthDays"], apart := false, laid := [("gnomon/days.monthDays", laid_gnomon_days_monthDays)] }
def PickTellsSaid : Prop := pickTellsRow.holds Tryd.pinned (OpenSpec.ofChange pickTellsSpec)

/-- ITS FALSE NEIGHBOUR: 'it returns false'. Refute it at one input. -/
def pickTellsWrong : ChangeSpec := { name := "pickTells", fn := fun _ => fun
  | [d1, d2, d3] => { results := [.lit (.bool false)], args := [d1, d2, d3] }
  | _ => none }
def PickTellsWrongFalsely : Prop := pickTellsRow.holds Tryd.pinned (OpenSpec.ofChange pickTellsWrong)

/-- 'gnomonlaw.PickTrue': WHATEVER THE INPUT: true; the input reads as it did. -/
def pickTrueSpec : ChangeSpec := { name := "pickTrue", fn := fun _ => fun
  | [d1, d2, d3, d4] => { results := [.lit (.bool true)], args := [d1, d2, d3, d4] }
  | _ => none }
def pickTrueRow : OpenClaim := { program := "ytlmhapbmebnmlaadoor", sum := "47159a7179485a2206c523759ded8be8ecbe1e6fadfffc97e3eaede54391d0e4", func := "gnomon/gnomonlaw.PickTrue", spec := "pickTrue", unfollowed := true, recurses := true, named := ["gnomon/days.monthDays"], apart := false, laid := [("gnomon/days.monthDays", laid_gnomon_days_monthDays)] }
def PickTrueSaid : Prop := pickTrueRow.holds Tryd.pinned (OpenSpec.ofChange pickTrueSpec)

/-- ITS FALSE NEIGHBOUR: 'it returns false'. Refute it at one input. -/
def pickTrueWrong : ChangeSpec := { name := "pickTrue", fn := fun _ => fun
  | [d1, d2, d3, d4] => { results := [.lit (.bool false)], args := [d1, d2, d3, d4] }
  | _ => none }
def PickTrueWrongFalsely : Prop := pickTrueRow.holds Tryd.pinned (OpenSpec.ofChange pickTrueWrong)

/-- 'gnomonlaw.PickAgain': WHATEVER THE INPUT: true; the input reads as it did. -/
def pickAgainSpec : ChangeSpec := { name := "pickAgain", fn := fun _ => fun
  | [d1, d2, d3] => { results := [.lit (.bool true)], args := [d1, d2, d3] }
  | _ => none }
def pickAgainRow : OpenClaim := { program := "ytlmhapbmebnmlaadoor", sum := "47159a7179485a2206c523759ded8be8ecbe1e6fadfffc97e3eaede54391d0e4", func := "gnomon/gnomonlaw.PickAgain", spec := "pickAgain", unfollowed := true, recurses := true, named := ["gnomon/days.monthDays"], apart := false, laid := [("gnomon/days.monthDays", laid_gnomon_days_monthDays)] }
def PickAgainSaid : Prop := pickAgainRow.holds Tryd.pinned (OpenSpec.ofChange pickAgainSpec)

/-- ITS FALSE NEIGHBOUR: 'it returns false'. Refute it at one input. -/
def pickAgainWrong : ChangeSpec := { name := "pickAgain", fn := fun _ => fun
  | [d1, d2, d3] => { results := [.lit (.bool false)], args := [d1, d2, d3] }
  | _ => none }
def PickAgainWrongFalsely : Prop := pickAgainRow.holds Tryd.pinned (OpenSpec.ofChange pickAgainWrong)

/- THE SECOND FORM. 'bulk': how many values and letters a reading holds, each counted each time it is reached (what is shared counts as often as it is met; a slice's spare places count too). A statement '..UptoSaid' is the law's where the arguments, and the package variables that the reading takes, are together of bulk at most 1048576: NARROWER than '..Said'. Prove '..Said' where nothing that the law and all that it calls make is longer than what came in: it says more and counts as full. Else prove '..UptoSaid'. A law counts once. -/
mutual
def uptoBulk {H : Type} : DataW H → Nat
  | .lit (.string bytes) => bytes.length + 1
  | .lit _ => 1
  | .nil => 1
  | .ptr d => uptoBulk d + 1
  | .slice elems spare => uptoBulkAll elems + uptoBulkAll spare + 1
  | .agg parts => uptoBulkAll parts + 1
  | .iface _ d => uptoBulk d + 1
  | .map entries => uptoBulkEntries entries + 1
  | .held _ => 1
def uptoBulkAll {H : Type} : List (DataW H) → Nat
  | [] => 0
  | d :: r => uptoBulk d + uptoBulkAll r
def uptoBulkEntries {H : Type} : List (Lit × DataW H) → Nat
  | [] => 0
  | x :: r => uptoBulkEntry x + uptoBulkEntries r
def uptoBulkEntry {H : Type} : Lit × DataW H → Nat
  | (.string bytes, d) => bytes.length + uptoBulk d + 1
  | (_, d) => uptoBulk d + 1
 end
def uptoSmall : (H : Type) → List (DataW H) → Bool := fun _ ds => decide (uptoBulkAll ds ≤ 1048576)
def OpenSpec.upto (s : _root_.Go.ChangeSpec) : _root_.Go.OpenSpec := { _root_.Go.OpenSpec.ofChange s with cond := some uptoSmall }

/-- 'gnomonlaw.DaysTells', WHERE WHAT IT READS IS OF BULK AT MOST 1048576: true; the input reads as it did. -/
def daysTellsUptoRow : OpenClaim := { program := "ytlmhapbmebnmlaadoor", sum := "47159a7179485a2206c523759ded8be8ecbe1e6fadfffc97e3eaede54391d0e4", func := "gnomon/gnomonlaw.DaysTells", spec := "daysTells", named := ["gnomon/days.monthDays"], apart := false, laid := [("gnomon/days.monthDays", laid_gnomon_days_monthDays)], narrowed := true }
def DaysTellsUptoSaid : Prop := daysTellsUptoRow.holds Tryd.pinned (OpenSpec.upto daysTellsSpec)

/-- 'gnomonlaw.DaysBack', WHERE WHAT IT READS IS OF BULK AT MOST 1048576: true; the input reads as it did. -/
def daysBackUptoRow : OpenClaim := { program := "ytlmhapbmebnmlaadoor", sum := "47159a7179485a2206c523759ded8be8ecbe1e6fadfffc97e3eaede54391d0e4", func := "gnomon/gnomonlaw.DaysBack", spec := "daysBack", named := ["gnomon/days.monthDays"], apart := false, laid := [("gnomon/days.monthDays", laid_gnomon_days_monthDays)], narrowed := true }
def DaysBackUptoSaid : Prop := daysBackUptoRow.holds Tryd.pinned (OpenSpec.upto daysBackSpec)

/-- 'gnomonlaw.DaysYear', WHERE WHAT IT READS IS OF BULK AT MOST 1048576: true; the input reads as it did. -/
def daysYearUptoRow : OpenClaim := { program := "ytlmhapbmebnmlaadoor", sum := "47159a7179485a2206c523759ded8be8ecbe1e6fadfffc97e3eaede54391d0e4", func := "gnomon/gnomonlaw.DaysYear", spec := "daysYear", named := ["gnomon/days.monthDays"], apart := false, laid := [("gnomon/days.monthDays", laid_gnomon_days_monthDays)], narrowed := true }
def DaysYearUptoSaid : Prop := daysYearUptoRow.holds Tryd.pinned (OpenSpec.upto daysYearSpec)

/-- 'gnomonlaw.PickTells', WHERE WHAT IT READS IS OF BULK AT MOST 1048576: true; the input reads as it did. -/
def pickTellsUptoRow : OpenClaim := { program := "ytlmhapbmebnmlaadoor", sum := "47159a7179485a2206c523759ded8be8ecbe1e6fadfffc97e3eaede54391d0e4", func := "gnomon/gnomonlaw.PickTells", spec := "pickTells", unfollowed := true, recurses := true, named := ["gnomon/days.monthDays"], apart := false, laid := [("gnomon/days.monthDays", laid_gnomon_days_monthDays)], narrowed := true }
def PickTellsUptoSaid : Prop := pickTellsUptoRow.holds Tryd.pinned (OpenSpec.upto pickTellsSpec)

/-- 'gnomonlaw.PickTrue', WHERE WHAT IT READS IS OF BULK AT MOST 1048576: true; the input reads as it did. -/
def pickTrueUptoRow : OpenClaim := { program := "ytlmhapbmebnmlaadoor", sum := "47159a7179485a2206c523759ded8be8ecbe1e6fadfffc97e3eaede54391d0e4", func := "gnomon/gnomonlaw.PickTrue", spec := "pickTrue", unfollowed := true, recurses := true, named := ["gnomon/days.monthDays"], apart := false, laid := [("gnomon/days.monthDays", laid_gnomon_days_monthDays)], narrowed := true }
def PickTrueUptoSaid : Prop := pickTrueUptoRow.holds Tryd.pinned (OpenSpec.upto pickTrueSpec)

/-- 'gnomonlaw.PickAgain', WHERE WHAT IT READS IS OF BULK AT MOST 1048576: true; the input reads as it did. -/
def pickAgainUptoRow : OpenClaim := { program := "ytlmhapbmebnmlaadoor", sum := "47159a7179485a2206c523759ded8be8ecbe1e6fadfffc97e3eaede54391d0e4", func := "gnomon/gnomonlaw.PickAgain", spec := "pickAgain", unfollowed := true, recurses := true, named := ["gnomon/days.monthDays"], apart := false, laid := [("gnomon/days.monthDays", laid_gnomon_days_monthDays)], narrowed := true }
def PickAgainUptoSaid : Prop := pickAgainUptoRow.holds Tryd.pinned (OpenSpec.upto pickAgainSpec)

end Rows
end Go.Proofs.YtlmhapbmebnmlaaDoor

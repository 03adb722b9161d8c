/-
  No cell of these rows narrows 'for every input' (looked for: loops, veiled, ifaces, maps, wideKeys, modest, calm, conditions, laid).
  DERIVED. THE GIVEN ROWS OF THIS SEAT. 2 by the template 'for every input the law returns true; each argument reads behind the call as it read before'; 0 by the template 'total and deterministic' (their statements: YtainhpnmgligjafTotals.lean).
  GIVEN WITH THE SEED: the statements are not yours to turn. If you find one false, say at which input.
  Laid BY PROGRAM, IN A SANDBOX (cutbox-rows.mjs): the forced cells as the released guide's own fill.sh prints them over the translation 9c1c89488164037c… (all of the seat's roots in one cut). By AI agents, Wed Nov 11 2026. No macro, syntax, notation, axiom, sorry.
-/
import Derived.Test.YtainhpnmgligjafChecked
import GoSem.Claim
import GoSem.ClaimJoined
import GoSem.ClaimMapViews
import Derived.JoinedTies
import Derived.KernelRfl
namespace Go.Proofs.Ytainhpnmgligjaf
/- THE CELL 'sum', in the pinned program and in every row, IS THE sha256 OF THE DUMP (.gsa) THAT YtainhpnmgligjafProg.lean LOADS. Nothing in Lean hashes anything: it is a label: what it is worth is what the hold of that sum in a sandbox is worth. -/
noncomputable def Try.pinned : Pinned := { name := "ytainhpnmgligjaf", sum := "9c1c89488164037c3d82b66cbd46da2d7397dccd96dfcd65869aed11d49b19cd", checked := Try.checked }
namespace Rows
def none {H : Type} : Left H := { results := [], args := [] }

/-- 'gnomonlaw.BooksTells': WHATEVER THE INPUT: true; the input reads as it did. -/
def booksTellsSpec : ChangeSpec := { name := "booksTells", fn := fun _ => fun
  | [d1, d2, d3] => { results := [.lit (.bool true)], args := [d1, d2, d3] }
  | _ => none }
def booksTellsRow : OpenClaim := { program := "ytainhpnmgligjaf", sum := "9c1c89488164037c3d82b66cbd46da2d7397dccd96dfcd65869aed11d49b19cd", func := "gnomon/gnomonlaw.BooksTells", spec := "booksTells", inPlace := ["internal/bytealg.IndexByteString", "internal/bytealg.abigen_runtime_cmpstring"], unfollowed := true, recurses := true, apart := false }
def BooksTellsSaid : Prop := booksTellsRow.holds Try.pinned (OpenSpec.ofChange booksTellsSpec)

/-- ITS FALSE NEIGHBOUR: 'it returns false'. Refute it at one input. -/
def booksTellsWrong : ChangeSpec := { name := "booksTells", fn := fun _ => fun
  | [d1, d2, d3] => { results := [.lit (.bool false)], args := [d1, d2, d3] }
  | _ => none }
def BooksTellsWrongFalsely : Prop := booksTellsRow.holds Try.pinned (OpenSpec.ofChange booksTellsWrong)

/-- 'gnomonlaw.BooksTrue': WHATEVER THE INPUT: true; the input reads as it did. -/
def booksTrueSpec : ChangeSpec := { name := "booksTrue", fn := fun _ => fun
  | [d1, d2, d3] => { results := [.lit (.bool true)], args := [d1, d2, d3] }
  | _ => none }
def booksTrueRow : OpenClaim := { program := "ytainhpnmgligjaf", sum := "9c1c89488164037c3d82b66cbd46da2d7397dccd96dfcd65869aed11d49b19cd", func := "gnomon/gnomonlaw.BooksTrue", spec := "booksTrue", inPlace := ["internal/bytealg.IndexByteString", "internal/bytealg.abigen_runtime_cmpstring"], unfollowed := true, recurses := true, apart := false }
def BooksTrueSaid : Prop := booksTrueRow.holds Try.pinned (OpenSpec.ofChange booksTrueSpec)

/-- ITS FALSE NEIGHBOUR: 'it returns false'. Refute it at one input. -/
def booksTrueWrong : ChangeSpec := { name := "booksTrue", fn := fun _ => fun
  | [d1, d2, d3] => { results := [.lit (.bool false)], args := [d1, d2, d3] }
  | _ => none }
def BooksTrueWrongFalsely : Prop := booksTrueRow.holds Try.pinned (OpenSpec.ofChange booksTrueWrong)

/- THE SECOND FORM. 'bulk': how many values and letters a reading holds, each counted each time it is reached (what is shared counts as often as it is met; a slice's spare places count too). A statement '..UptoSaid' is the law's where the arguments, and the package variables that the reading takes, are together of bulk at most 1048576: NARROWER than '..Said'. Prove '..Said' where nothing that the law and all that it calls make is longer than what came in: it says more and counts as full. Else prove '..UptoSaid'. A law counts once. -/
mutual
def uptoBulk {H : Type} : DataW H → Nat
  | .lit (.string bytes) => bytes.length + 1
  | .lit _ => 1
  | .nil => 1
  | .ptr d => uptoBulk d + 1
  | .slice elems spare => uptoBulkAll elems + uptoBulkAll spare + 1
  | .agg parts => uptoBulkAll parts + 1
  | .iface _ d => uptoBulk d + 1
  | .map entries => uptoBulkEntries entries + 1
  | .held _ => 1
def uptoBulkAll {H : Type} : List (DataW H) → Nat
  | [] => 0
  | d :: r => uptoBulk d + uptoBulkAll r
def uptoBulkEntries {H : Type} : List (Lit × DataW H) → Nat
  | [] => 0
  | x :: r => uptoBulkEntry x + uptoBulkEntries r
def uptoBulkEntry {H : Type} : Lit × DataW H → Nat
  | (.string bytes, d) => bytes.length + uptoBulk d + 1
  | (_, d) => uptoBulk d + 1
 end
def uptoSmall : (H : Type) → List (DataW H) → Bool := fun _ ds => decide (uptoBulkAll ds ≤ 1048576)
def OpenSpec.upto (s : _root_.Go.ChangeSpec) : _root_.Go.OpenSpec := { _root_.Go.OpenSpec.ofChange s with cond := some uptoSmall }

/-- 'gnomonlaw.BooksTells', WHERE WHAT IT READS IS OF BULK AT MOST 1048576: true; the input reads as it did. -/
def booksTellsUptoRow : OpenClaim := { program := "ytainhpnmgligjaf", sum := "9c1c89488164037c3d82b66cbd46da2d7397dccd96dfcd65869aed11d49b19cd", func := "gnomon/gnomonlaw.BooksTells", spec := "booksTells", inPlace := ["internal/bytealg.IndexByteString", "internal/bytealg.abigen_runtime_cmpstring"], unfollowed := true, recurses := true, apart := false, narrowed := true }
def BooksTellsUptoSaid : Prop := booksTellsUptoRow.holds Try.pinned (OpenSpec.upto booksTellsSpec)

/-- 'gnomonlaw.BooksTrue', WHERE WHAT IT READS IS OF BULK AT MOST 1048576: true; the input reads as it did. -/
def booksTrueUptoRow : OpenClaim := { program := "ytainhpnmgligjaf", sum := "9c1c89488164037c3d82b66cbd46da2d7397dccd96dfcd65869aed11d49b19cd", func := "gnomon/gnomonlaw.BooksTrue", spec := "booksTrue", inPlace := ["internal/bytealg.IndexByteString", "internal/bytealg.abigen_runtime_cmpstring"], unfollowed := true, recurses := true, apart := false, narrowed := true }
def BooksTrueUptoSaid : Prop := booksTrueUptoRow.holds Try.pinned (OpenSpec.upto booksTrueSpec)

end Rows
end Go.Proofs.Ytainhpnmgligjaf

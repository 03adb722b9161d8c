/- Loops over eras.Spans: the iterator's contract, whatever the body does, and the statement, where the body may be left by a panic. -/
import Derived.Test.YtainhpnmgligjafDataB
import Derived.Test.YtainhpnmgligjafRf
import Derived.Shelf.Abstract
import Derived.Shelf.RegionOpen
import Derived.OwnWalkIn
import Derived.TacticsInMore
import Derived.LoopNIn
import Derived.LoopIn
namespace Go.Proofs.Ytainhpnmgligjaf
open Go Go.RowKit Go.Shelf
set_option linter.unusedVariables false
attribute [local go_sem] Oper.semAt_some

/-- what lies from B on lies as it lay -/
structure Kept (B : Nat) (W W' : World) : Prop where
  size : W.heap.size ≤ W'.heap.size
  same : ∀ b, B ≤ b → b < W.heap.size → W'.heap[b]? = W.heap[b]?
theorem Kept.refl (B : Nat) (W : World) : Kept B W W := ⟨Nat.le_refl _, fun _ _ _ => rfl⟩
theorem Kept.trans {B : Nat} {X Y Z : World} (h : Kept B X Y) (k : Kept B Y Z) : Kept B X Z := ⟨Nat.le_trans h.size k.size, fun b h1 h2 => (k.same b h1 (Nat.lt_of_lt_of_le h2 h.size)).trans (h.same b h1 h2)⟩
theorem Kept.of_below {B : Nat} {W W' : World} (h : Below W.heap.size W W') : Kept B W W' := ⟨h.size, fun b _ h2 => h.block b h2⟩
theorem Kept.set {B : Nat} (W : World) {b o : Nat} (h : b < B) (v : Value) : Kept B W (W.setCell ⟨b, o, none⟩ v) :=
  ⟨by simp [World.setCell], fun k h1 _ => Below.heap_setCell _ _ _ _ (by simp; omega)⟩

abbrev Er.cs (x : Er) : Array Value := #[.int .i64 x.std, .int .i64 x.set, .int .i64 x.sv, .string x.fm, .int .i64 x.un]
/-- where the era k begins -/
def frm (es : Nat → Er) : Nat → Int | 0 => 0 | k + 1 => (es k).un
theorem EAt.same {w w' : World} {b o : Nat} {x : Er} (h : EAt w b o x) (hb : w'.heap[b]? = w.heap[b]?) : EAt w' b o x := by
  have hc : ∀ o, w'.cell? ⟨b, o, none⟩ = w.cell? ⟨b, o, none⟩ := fun o => World.cell?_of_block hb
  obtain ⟨h0, h1, h2, h3, h4⟩ := h
  exact ⟨(hc _).trans h0, (hc _).trans h1, (hc _).trans h2, (hc _).trans h3, (hc _).trans h4⟩

end Go.Proofs.Ytainhpnmgligjaf

/- The statement 'for .. := range eras.Spans(..)': its rounds may go on, break, return, or panic. And what a function with such loops owes where it is left. -/
import Derived.Test.YtainhpnmgligjafSpans
import Derived.Test.YtainhpnmgligjafRg
namespace Go.Proofs.Ytainhpnmgligjaf
open Go Go.RowKit Go.Shelf
set_option linter.unusedVariables false

/-- what a round's body owes -/
def bpost (B : Nat) (I : Nat → World → Prop) (Ix : Code → World → Prop) (Ip : List PanicEntry → World → Prop) (k : Nat) (W : World) : Exit → Act → World → Prop
  | .normal, _, W' => Kept B W W' ∧ I (k + 1) W'
  | .ret, _, W' => Kept B W W' ∧ Ix .ret W'
  | .exit id, _, W' => Kept B W W' ∧ Ix (.exit id) W'
  | .panic ch, a', W' => a'.defers = [] ∧ Kept B W W' ∧ Ip ch W'
  | _, _, _ => False
abbrev mark (D : Nat) : Deferred := { target := .collected D, args := #[] }
theorem low_put {B l : Nat} {W : World} {o : Obj} (o' : Obj) (hl : B ≤ l) (h : W.heap[l]? = some o) : Below B W (W.putObj l o') :=
  (Below.refl B W).grown (grownBy_putObj' W l o') (by have := (Array.getElem?_eq_some_iff.1 h).1; omega) (fun k e => by cases e; exact hl)
theorem low_alloc {B : Nat} {W : World} (hB : B ≤ W.heap.size) (o : Obj) : Below B W (W.alloc o) := (Below.refl B W).alloc hB o

theorem wpG_plain {P : Program} {f : FuncId} {c : Code} {Q : Exit → Act → World → Prop} {a : Act} {w : World} (h : c.wp P Q a w) : wpG P f c Q a w := wpG_of (n := 0) (wpIn_wide.2 h)
/-- the marks that loops over functions have left, below hi -/
def Marks (B : Nat) : Nat → List Deferred → World → Prop
  | _, [], _ => True
  | hi, d :: ds, W => ∃ D, d = mark D ∧ B ≤ D ∧ D < hi ∧ W.heap[D]? = some (.deferred (some [])) ∧ Marks B D ds W
theorem Marks.on {B : Nat} {W W' : World} : ∀ {ds : List Deferred} {hi : Nat}, Marks B hi ds W → Below hi W W' → Marks B hi ds W'
  | [], _, _, _ => trivial
  | d :: ds, hi, ⟨D, h1, h2, h3, h4, h5⟩, hb => ⟨D, h1, h2, h3, (hb.block D h3).trans h4, Marks.on h5 (hb.mono (by omega))⟩
theorem Marks.up {B : Nat} {W : World} {ds : List Deferred} {hi hi' : Nat} (h : Marks B hi ds W) (hh : hi ≤ hi') : Marks B hi' ds W := by
  cases ds with
  | nil => trivial
  | cons d ds => obtain ⟨D, h1, h2, h3, h4, h5⟩ := h; exact ⟨D, h1, h2, by omega, h4, h5⟩
theorem Marks.leaves {B : Nat} {F : Fence} {n : Nat} {P : Program} {fn : Func} {tmps : Array Value} {R : Ending → World → Prop} {u : FrameMode} (hu : u ≠ .run) :
    ∀ {ds : List Deferred} {hi : Nat} {W : World}, Marks B hi ds W → (∀ W', Below B W W' → LeavesInM F n P fn tmps R [] u W') → LeavesInM F n P fn tmps R ds u W
  | [], _, W, _, h => h W (Below.refl _ _)
  | d :: ds, hi, W, ⟨D, h1, h2, h3, h4, h5⟩, h => by
    subst h1
    have hb : Below D W (W.putObj D (.deferred none)) := low_put _ (Nat.le_refl _) h4
    exact ⟨hu, .inl ⟨D, _, rfl, run_takeDeferred h4, Marks.leaves hu (h5.on hb) fun W' hw => h W' ((hb.mono h2).trans hw)⟩⟩
end Go.Proofs.Ytainhpnmgligjaf

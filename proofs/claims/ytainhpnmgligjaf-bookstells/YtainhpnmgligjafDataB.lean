/- Data, as they lie in memory; the contract of refuseMany. -/
import Derived.Test.YtainhpnmgligjafDataA
import Derived.Test.YtainhpnmgligjafRulesIAll
namespace Go.Proofs.Ytainhpnmgligjaf
open Go Go.RowKit
set_option linter.unusedVariables false

/-- a set: its name; where its rules lie -/
structure St where
  nm : ByteArray
  a : Option Addr
  n : Nat
  c : Nat
  rs : Nat → Rl
/-- an era -/
structure Er where
  std : Int
  set : Int
  sv : Int
  fm : ByteArray
  un : Int
/-- a zone: its name; where its eras lie -/
structure Zn where
  nm : ByteArray
  a : Option Addr
  n : Nat
  c : Nat
  es : Nat → Er
/-- a link -/
structure Lk where
  nm : ByteArray
  to : ByteArray
/-- data: where sets, zones and links lie, and what they are -/
structure Dt where
  sa : Option Addr
  ns : Nat
  sc : Nat
  ss : Nat → St
  za : Option Addr
  nz : Nat
  zc : Nat
  zs : Nat → Zn
  la : Option Addr
  nl : Nat
  lc : Nat
  ls : Nat → Lk
abbrev Er.v (x : Er) : Value := .agg #[.int .i64 x.std, .int .i64 x.set, .int .i64 x.sv, .string x.fm, .int .i64 x.un]
abbrev Dt.v (D : Dt) : Value := .agg #[.slice D.sa D.ns D.sc, .slice D.za D.nz D.zc, .slice D.la D.nl D.lc]
abbrev St.sl (x : St) : Value := .slice x.a x.n x.c
abbrev Zn.sl (x : Zn) : Value := .slice x.a x.n x.c

/-- n pairs of cells in a row -/
def P2 (w : World) (a : Option Addr) (n : Nat) (f g : Nat → Value) : Prop := n = 0 ∨ ∃ b off, a = some ⟨b, off, none⟩ ∧ ∀ j, j < n → w.cell? ⟨b, off + j * 2, none⟩ = some (f j) ∧ w.cell? ⟨b, off + j * 2 + 1, none⟩ = some (g j)
theorem P2.on {w w' : World} {a : Option Addr} {n : Nat} {f g : Nat → Value} (h : P2 w a n f g) (hb : Below w.heap.size w w') : P2 w' a n f g := by
  rcases h with h | ⟨b, off, h1, h2⟩
  · exact .inl h
  · exact .inr ⟨b, off, h1, fun j hj => ⟨cell_on (h2 j hj).1 hb, cell_on (h2 j hj).2 hb⟩⟩
/-- five cells of an era, from offset o on -/
def EAt (w : World) (b o : Nat) (x : Er) : Prop := w.cell? ⟨b, o, none⟩ = some (.int .i64 x.std) ∧ w.cell? ⟨b, o + 1, none⟩ = some (.int .i64 x.set) ∧ w.cell? ⟨b, o + 2, none⟩ = some (.int .i64 x.sv) ∧ w.cell? ⟨b, o + 3, none⟩ = some (.string x.fm) ∧ w.cell? ⟨b, o + 4, none⟩ = some (.int .i64 x.un)
def ERow (w : World) (a : Option Addr) (n : Nat) (es : Nat → Er) : Prop := n = 0 ∨ ∃ b off, a = some ⟨b, off, none⟩ ∧ ∀ j, j < n → EAt w b (off + j * 5) (es j)
theorem ERow.on {w w' : World} {a : Option Addr} {n : Nat} {es : Nat → Er} (h : ERow w a n es) (hb : Below w.heap.size w w') : ERow w' a n es := by
  rcases h with h | ⟨b, off, h1, h2⟩
  · exact .inl h
  · exact .inr ⟨b, off, h1, fun j hj => ⟨cell_on (h2 j hj).1 hb, cell_on (h2 j hj).2.1 hb, cell_on (h2 j hj).2.2.1 hb, cell_on (h2 j hj).2.2.2.1 hb, cell_on (h2 j hj).2.2.2.2 hb⟩⟩
/-- data lie in a world -/
structure DAt (w : World) (D : Dt) : Prop where
  sets : P2 w D.sa D.ns (fun j => .string (D.ss j).nm) (fun j => (D.ss j).sl)
  rules : ∀ j, j < D.ns → ARow w (D.ss j).a (D.ss j).n (D.ss j).c (D.ss j).rs
  zones : P2 w D.za D.nz (fun j => .string (D.zs j).nm) (fun j => (D.zs j).sl)
  eras : ∀ j, j < D.nz → ERow w (D.zs j).a (D.zs j).n (D.zs j).es
  links : P2 w D.la D.nl (fun j => .string (D.ls j).nm) (fun j => .string (D.ls j).to)
theorem DAt.on {w w' : World} {D : Dt} (h : DAt w D) (hb : Below w.heap.size w w') : DAt w' D :=
  ⟨h.sets.on hb, fun j hj => (h.rules j hj).on hb, h.zones.on hb, fun j hj => (h.eras j hj).on hb, h.links.on hb⟩
/-- no length is beyond Go's -/
structure Dt.fits (D : Dt) : Prop where
  ns : D.ns ≤ maxLen
  nz : D.nz ≤ maxLen
  nl : D.nl ≤ maxLen
  snm : ∀ j, j < D.ns → (D.ss j).nm.size ≤ maxLen
  sn : ∀ j, j < D.ns → (D.ss j).n ≤ maxLen
  lt : ∀ j, j < D.ns → ∀ i, i < (D.ss j).n → ((D.ss j).rs i).s.size ≤ maxLen
  znm : ∀ j, j < D.nz → (D.zs j).nm.size ≤ maxLen
  zn : ∀ j, j < D.nz → (D.zs j).n ≤ maxLen
  fm : ∀ j, j < D.nz → ∀ i, i < (D.zs j).n → ((D.zs j).es i).fm.size ≤ maxLen
  lnm : ∀ j, j < D.nl → (D.ls j).nm.size ≤ maxLen
  lto : ∀ j, j < D.nl → (D.ls j).to.size ≤ maxLen

/-- not too many -/
abbrev few1 (D : Dt) : Prop := D.ns ≤ 3 ∧ D.nz ≤ 5 ∧ D.nl ≤ 4
abbrev few2 (D : Dt) : Prop := ∀ j, j < D.ns → 1 ≤ (D.ss j).n ∧ (D.ss j).n ≤ 4
abbrev few3 (D : Dt) : Prop := ∀ j, j < D.nz → 1 ≤ (D.zs j).n ∧ (D.zs j).n ≤ 4
def few (D : Dt) : Bool := decide (few1 D) && (decide (few2 D) && decide (few3 D))
theorem few_of {D : Dt} (h1 : few1 D) (h2 : few2 D) (h3 : few3 D) : few D = true := by unfold few; rw [decide_eq_true h1, decide_eq_true h2, decide_eq_true h3]; rfl
theorem few_no1 {D : Dt} (h : ¬ few1 D) : few D = false := by unfold few; rw [decide_eq_false h]; rfl
theorem few_no2 {D : Dt} (h : ¬ few2 D) : few D = false := by unfold few; rw [decide_eq_false h]; cases decide (few1 D) <;> rfl
theorem few_no3 {D : Dt} (h : ¬ few3 D) : few D = false := by unfold few; rw [decide_eq_false h]; cases decide (few1 D) <;> cases decide (few2 D) <;> rfl
theorem few_all {D : Dt} (h : few D = true) : few1 D ∧ few2 D ∧ few3 D := by
  unfold few at h
  rw [Bool.and_eq_true, Bool.and_eq_true, decide_eq_true_iff, decide_eq_true_iff, decide_eq_true_iff] at h
  exact h

theorem left_2 {b : Bool} (h : b = false) : left (if b then 0 else 2) = .panicked [{ v := errV 2, recovered := false }] := by subst h; rfl
theorem left_0 {b : Bool} (h : b = true) (e : Int) : left (if b then 0 else e) = .returned (.tuple #[]) := by subst h; rfl
/-- a pair of cells in a box of its own -/
theorem box2 (w : World) (x y : Value) (t : TypeId) : (w.alloc (.cells #[x, y] t)).cell? ⟨w.heap.size, 0, none⟩ = some x ∧ (w.alloc (.cells #[x, y] t)).cell? ⟨w.heap.size, 1, none⟩ = some y := by constructor <;> simp

end Go.Proofs.Ytainhpnmgligjaf

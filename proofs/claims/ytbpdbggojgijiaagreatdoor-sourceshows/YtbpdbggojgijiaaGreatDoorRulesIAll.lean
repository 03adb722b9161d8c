/- Contracts of the document's own answers on rules: last, LastOf; and lists that are nil. -/
import Derived.Test.YtbpdbggojgijiaaGreatDoorRulesEAll
namespace Go.Proofs.YtbpdbggojgijiaaGreatDoor
open Go Go.RowKit
set_option linter.unusedVariables false

/-- how the document's own state tells what the program's tells -/
def Lnk (W rl : Int) (isb : Bool) : Prop := (W < 0 ∧ rl = 0 ∧ isb = false) ∨ (0 ≤ W ∧ rl = W ∧ isb = true)
theorem ret_iib {a b c d : Int} {e f : Bool} (h : a = b) (k : c = d) (l : e = f) : Ending.returned (.tuple #[.int .i64 a, .int .i64 c, .bool e]) = .returned (.tuple #[.int .i64 b, .int .i64 d, .bool f]) := by rw [h, k, l]

end Go.Proofs.YtbpdbggojgijiaaGreatDoor

/- Contracts of Last and LastOf for whatever list; of the statements' own spring and rulesBegun. -/
namespace Go.Proofs.YtbpdbggojgijiaaGreatDoor
open Go Go.RowKit
set_option linter.unusedVariables false

theorem last_nil_cases (rs : Nat → Rl) (std t : Int) :
    (inB std (-50400) 50400 = false ∧ lastE rs 0 std t = 3 ∧ lastK rs 0 std t = 0 ∧ lastN rs 0 std t = 0) ∨
    (inB std (-50400) 50400 = true ∧ ((inB t 0 1893455999 = false ∧ lastE rs 0 std t = 3 ∧ lastK rs 0 std t = 0 ∧ lastN rs 0 std t = 0) ∨
      (inB t 0 1893455999 = true ∧ lastE rs 0 std t = 4 ∧ lastK rs 0 std t = 0 ∧ lastN rs 0 std t = 0))) := by
  rcases last_cases rs 0 std t with ⟨h, _⟩ | ⟨_, h⟩
  · omega
  · rcases h with ⟨h, _⟩ | ⟨_, h⟩
    · exact absurd rfl h
    · rcases h with h | ⟨h1, h⟩
      · exact .inl h
      · rcases h with h | ⟨h2, h⟩
        · exact .inr ⟨h1, .inl h⟩
        · rcases h with ⟨_, h⟩ | ⟨h3, _⟩
          · exact .inr ⟨h1, .inr ⟨h2, h⟩⟩
          · exact absurd (by show (-1 : Int) < 0; omega) h3
/-- a list of n rules, as a slice leads to it -/
def ARow (w : World) (a : Option Addr) (n cap : Nat) (rs : Nat → Rl) : Prop := (n = 0) ∨ ∃ b off, a = some ⟨b, off, none⟩ ∧ Row w b off n rs
theorem ARow.on {w w' : World} {a : Option Addr} {n cap : Nat} {rs : Nat → Rl} (h : ARow w a n cap rs) (hb : Below w.heap.size w w') : ARow w' a n cap rs := by
  rcases h with h | ⟨b, off, h1, h2⟩
  · exact .inl h
  · exact .inr ⟨b, off, h1, h2.on hb⟩
end Go.Proofs.YtbpdbggojgijiaaGreatDoor

/- Contracts of the statements' own spring and rulesBegun. -/
namespace Go.Proofs.YtbpdbggojgijiaaGreatDoor
open Go Go.RowKit
set_option linter.unusedVariables false

def spr (i : Nat) : Rl := if i = 0 then ⟨1980, 2029, 3, 2, 0, 0, 7200, 3600, ⟨#[68]⟩⟩ else ⟨1980, 2029, 10, 2, 0, 0, 7200, 0, ⟨#[83]⟩⟩
theorem spring_c (w : World) : Calls Tryz.prog 47 #[] w fun e w' => e = .returned (.slice (some ⟨w.heap.size, 0, none⟩) 2 2) ∧ Row w' w.heap.size 0 2 spr ∧ Below w.heap.size w w' := by
  go_enter Tryz.func47, Tryz.ntmps47
  go_wp2
  go_ret
  refine ⟨rfl, ?_, (Below.refl _ _).alloc (Nat.le_refl _) _⟩
  intro j hj
  have h : j = 0 ∨ j = 1 := by omega
  rcases h with rfl | rfl
  · refine ⟨?_, ?_, ?_, ?_, ?_, ?_, ?_, ?_, ?_⟩ <;> simp [spr]
  · refine ⟨?_, ?_, ?_, ?_, ?_, ?_, ?_, ?_, ?_⟩ <;> simp [spr]
theorem Row.box {w : World} {b n : Nat} {rs : Nat → Rl} (h : Row w b 0 n rs) (hn : 0 < n) : RBox w b (rs 0) := by
  have := h 0 hn
  simpa [RAt, RBox] using this
theorem spr_size (j : Nat) (h : j < 2) : (spr j).s.size ≤ maxLen := by
  unfold spr maxLen
  split <;> decide
/-- the first rule of spring, its letter a digit -/
def sprX : Rl := ⟨(spr 0).f, (spr 0).t, (spr 0).m, (spr 0).k, (spr 0).wk, (spr 0).D, (spr 0).a, (spr 0).sv, ⟨#[49]⟩⟩
set_option maxRecDepth 100000 in
theorem sv1 : atR (spr 0) 2020 3600 = 1585443600 := by kernel_rfl
theorem sv2 : atE (spr 0) 2020 3600 = 0 := by kernel_rfl
theorem sv3 : lastK spr 2 3600 1585443600 = 0 := by kernel_rfl
theorem sv4 : lastN spr 2 3600 1585443600 = 1585443600 := by kernel_rfl
theorem sv5 : lastE spr 2 3600 1585443600 = 0 := by kernel_rfl
theorem sv6 : lastK spr 2 3600 1585443599 = 1 := by kernel_rfl
theorem sv7 : lastE spr 2 3600 1585443599 = 0 := by kernel_rfl
theorem sv8 : lastE spr 2 0 0 = 4 := by kernel_rfl
theorem sv9 : rchk (spr 0) = 0 := by kernel_rfl
theorem sv10 : rchk sprX = 5 := by kernel_rfl
end Go.Proofs.YtbpdbggojgijiaaGreatDoor

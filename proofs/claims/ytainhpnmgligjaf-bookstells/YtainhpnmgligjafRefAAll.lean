/- Contracts of the document's own answers (package gnomonref) on days. -/
import Derived.Test.YtainhpnmgligjafMathAll
import Derived.Deep.QuietTactic
import Derived.BigQuiet
import Derived.WalkSmall
import Derived.Deep.RegionWith
namespace Go.Proofs.Ytainhpnmgligjaf
open Go Go.RowKit
set_option linter.unusedVariables false

def inB (n a b : Int) : Bool := decide (a ≤ n ∧ n ≤ b)
theorem within_c (n a b : Int) (w : World) : Calls Try.prog 25 #[.int .i64 n, .int .i64 a, .int .i64 b] w fun e w' => e = .returned (.bool (inB n a b)) ∧ w' = w := by
  by_cases h : a ≤ n
  all_goals
    go_enter Try.func25, Try.ntmps25
    go_wp2
    go_ret
    exact ⟨ret_bool (by unfold inB; rw [Bool.eq_iff_iff]; simp; omega), rfl⟩
end Go.Proofs.Ytainhpnmgligjaf

/- Contracts of the document's own answers (package gnomonref): DaysOf. -/
namespace Go.Proofs.Ytainhpnmgligjaf
open Go Go.RowKit
set_option linter.unusedVariables false

theorem bthen {w a b : World} (h : Below w.heap.size w a) (k : Below a.heap.size a b) : Below w.heap.size w b := h.trans (k.mono h.size)
theorem in_of {n a b : Int} (h : inB n a b = true) : a ≤ n ∧ n ≤ b := by unfold inB at h; simpa using h
theorem in_mk {n a b : Int} (h : a ≤ n ∧ n ≤ b) : inB n a b = true := by unfold inB; simpa using h
theorem in_not {n a b : Int} (h : ¬ (a ≤ n ∧ n ≤ b)) : inB n a b = false := by unfold inB; simpa using h

end Go.Proofs.Ytainhpnmgligjaf

/- Contracts of package pick: Check, and what it leans on. -/
namespace Go.Proofs.Ytainhpnmgligjaf
open Go Go.RowKit
set_option linter.unusedVariables false

theorem cell_lt {w : World} {b o : Nat} {v : Value} (h : w.cell? ⟨b, o, none⟩ = some v) : b < w.heap.size := by
  rcases Nat.lt_or_ge b w.heap.size with h1 | h1
  · exact h1
  · have h2 : w.heap[b]? = none := Array.getElem?_eq_none h1
    simp [World.cell?, h2] at h
theorem bcell {W w1 : World} (hb : Below W.heap.size W w1) : (∀ b o, b < W.heap.size → w1.cell? ⟨b, o, none⟩ = W.cell? ⟨b, o, none⟩) ∧ (∀ b o, b < W.heap.size → w1.frozen? ⟨b, o, none⟩ = W.frozen? ⟨b, o, none⟩) :=
  ⟨fun b o h => hb.cell (p := ⟨b, o, none⟩) h, fun b o h => hb.frozen (p := ⟨b, o, none⟩) h⟩
theorem bel_box {w w' : World} {o : Obj} (h : Below (w.alloc o).heap.size (w.alloc o) w') : Below w.heap.size w w' :=
  ((Below.refl _ _).alloc (Nat.le_refl _) o).trans (h.mono (by simp))

/-- a day of a month, as a value -/
abbrev onV (k wk d : Int) : Value := .agg #[.int .i64 k, .int .i64 wk, .int .i64 d]
/-- what is wrong with it: 8, 3 or 0 -/
def chk (k wk d : Int) : Int :=
  if k < 1 ∨ 3 < k then 8
  else if wk < 0 ∨ 6 < wk ∨ (k = 1 ∧ wk ≠ 0) ∨ (k = 2 ∧ d ≠ 0) ∨ (k ≠ 2 ∧ (d < 1 ∨ 31 < d)) then 3 else 0

theorem in_cases (n a b : Int) : inB n a b = true ∧ a ≤ n ∧ n ≤ b ∨ inB n a b = false ∧ (n < a ∨ b < n) := by
  cases h : inB n a b
  · exact .inr ⟨rfl, by unfold inB at h; simp at h; omega⟩
  · exact .inl ⟨rfl, in_of h⟩
theorem beq_cases (a b : Int) : (a == b) = true ∧ a = b ∨ (a == b) = false ∧ a ≠ b := by
  by_cases h : a = b
  · exact .inl ⟨beq_iff_eq.2 h, h⟩
  · exact .inr ⟨beq_eq_false_iff_ne.2 h, h⟩

end Go.Proofs.Ytainhpnmgligjaf

/- Contracts of package pick: choose, in its three kinds. -/
namespace Go.Proofs.Ytainhpnmgligjaf
open Go Go.RowKit
set_option linter.unusedVariables false

theorem ret_ii {a b c d : Int} (h : a = b) (k : c = d) : Ending.returned (.tuple #[.int .i64 a, .int .i64 c]) = .returned (.tuple #[.int .i64 b, .int .i64 d]) := by rw [h, k]
theorem hideH {p : Prop} (h : p) : Hid p := h
/-- the day that is chosen, of a month that begins at day f and has L days; 0: none -/
def pickd (k wk D L f : Int) : Int :=
  if k = 1 then (if D ≤ L then D else 0) else if k = 2 then L - (f + L + 3 - wk) % 7
  else if D + (wk - (f + D + 3)) % 7 ≤ L then D + (wk - (f + D + 3)) % 7 else 0

def findR (y m k wk D : Int) : Int := if chk k wk D = 0 ∧ Cal.okB y m 1 = true then pickd k wk D (Cal.ml y m) (Cal.num y m 1) else 0
def findE (y m k wk D : Int) : Int := if chk k wk D = 0 then (if Cal.okB y m 1 = true then (if pickd k wk D (Cal.ml y m) (Cal.num y m 1) = 0 then 4 else 0) else 3) else chk k wk D

end Go.Proofs.Ytainhpnmgligjaf

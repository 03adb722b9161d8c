/- Contracts of the statements' own spring and rulesBegun. -/
import Derived.Test.YtlmhapbmebnmlabDoorRulesJ
namespace Go.Proofs.YtlmhapbmebnmlabDoor
open Go Go.RowKit
set_option linter.unusedVariables false

def spr (i : Nat) : Rl := if i = 0 then ⟨1980, 2029, 3, 2, 0, 0, 7200, 3600, ⟨#[68]⟩⟩ else ⟨1980, 2029, 10, 2, 0, 0, 7200, 0, ⟨#[83]⟩⟩
theorem spring_c (w : World) : Calls Tryd.prog 20 #[] w fun e w' => e = .returned (.slice (some ⟨w.heap.size, 0, none⟩) 2 2) ∧ Row w' w.heap.size 0 2 spr ∧ Below w.heap.size w w' := by
  go_enter Tryd.func20, Tryd.ntmps20
  go_wp2
  go_ret
  refine ⟨rfl, ?_, (Below.refl _ _).alloc (Nat.le_refl _) _⟩
  intro j hj
  have h : j = 0 ∨ j = 1 := by omega
  rcases h with rfl | rfl
  · refine ⟨?_, ?_, ?_, ?_, ?_, ?_, ?_, ?_, ?_⟩ <;> simp [spr]
  · refine ⟨?_, ?_, ?_, ?_, ?_, ?_, ?_, ?_, ?_⟩ <;> simp [spr]
theorem Row.box {w : World} {b n : Nat} {rs : Nat → Rl} (h : Row w b 0 n rs) (hn : 0 < n) : RBox w b (rs 0) := by
  have := h 0 hn
  simpa [RAt, RBox] using this
theorem spr_size (j : Nat) (h : j < 2) : (spr j).s.size ≤ maxLen := by
  unfold spr maxLen
  split <;> decide
/-- the first rule of spring, its letter a digit -/
def sprX : Rl := ⟨(spr 0).f, (spr 0).t, (spr 0).m, (spr 0).k, (spr 0).wk, (spr 0).D, (spr 0).a, (spr 0).sv, ⟨#[49]⟩⟩
set_option maxRecDepth 100000 in
theorem sv1 : atR (spr 0) 2020 3600 = 1585443600 := by kernel_rfl
theorem sv2 : atE (spr 0) 2020 3600 = 0 := by kernel_rfl
theorem sv3 : lastK spr 2 3600 1585443600 = 0 := by kernel_rfl
theorem sv4 : lastN spr 2 3600 1585443600 = 1585443600 := by kernel_rfl
theorem sv5 : lastE spr 2 3600 1585443600 = 0 := by kernel_rfl
theorem sv6 : lastK spr 2 3600 1585443599 = 1 := by kernel_rfl
theorem sv7 : lastE spr 2 3600 1585443599 = 0 := by kernel_rfl
theorem sv8 : lastE spr 2 0 0 = 4 := by kernel_rfl
theorem sv9 : rchk (spr 0) = 0 := by kernel_rfl
theorem sv10 : rchk sprX = 5 := by kernel_rfl
end Go.Proofs.YtlmhapbmebnmlabDoor

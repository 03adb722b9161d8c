/- Contracts of package rules: bounds, letters, Std. -/
import Derived.Test.YtlmhapbmebnmlabDoorPickT
import Derived.Deep.RegionHeld3
namespace Go.Proofs.YtlmhapbmebnmlabDoor
open Go Go.RowKit
set_option linter.unusedVariables false

/-- a rule: its years, its month, its day, its second, what it saves, its letters -/
structure Rl where
  f : Int
  t : Int
  m : Int
  k : Int
  wk : Int
  D : Int
  a : Int
  sv : Int
  s : ByteArray
abbrev Rl.v (r : Rl) : Value := .agg #[.int .i64 r.f, .int .i64 r.t, .int .i64 r.m, .int .i64 r.k, .int .i64 r.wk, .int .i64 r.D, .int .i64 r.a, .int .i64 r.sv, .string r.s]
abbrev Rl.cs (r : Rl) : Array Value := #[.int .i64 r.f, .int .i64 r.t, .int .i64 r.m, .int .i64 r.k, .int .i64 r.wk, .int .i64 r.D, .int .i64 r.a, .int .i64 r.sv, .string r.s]

def bnd (r : Rl) : Bool := decide (1970 ≤ r.f ∧ r.f ≤ r.t ∧ r.t ≤ 2029 ∧ 1 ≤ r.m ∧ r.m ≤ 12 ∧ 0 ≤ r.a ∧ r.a ≤ 86400 ∧ 0 ≤ r.sv ∧ r.sv ≤ 7200)
theorem bnd_of {r : Rl} (h : bnd r = true) : 1970 ≤ r.f ∧ r.f ≤ r.t ∧ r.t ≤ 2029 ∧ 1 ≤ r.m ∧ r.m ≤ 12 ∧ 0 ≤ r.a ∧ r.a ≤ 86400 ∧ 0 ≤ r.sv ∧ r.sv ≤ 7200 := by unfold bnd at h; simpa using h
theorem bnd_mk {r : Rl} (h : 1970 ≤ r.f ∧ r.f ≤ r.t ∧ r.t ≤ 2029 ∧ 1 ≤ r.m ∧ r.m ≤ 12 ∧ 0 ≤ r.a ∧ r.a ≤ 86400 ∧ 0 ≤ r.sv ∧ r.sv ≤ 7200) : bnd r = true := by unfold bnd; simpa using h
theorem bnd_no {r : Rl} (h : ¬ (1970 ≤ r.f ∧ r.f ≤ r.t ∧ r.t ≤ 2029 ∧ 1 ≤ r.m ∧ r.m ≤ 12 ∧ 0 ≤ r.a ∧ r.a ≤ 86400 ∧ 0 ≤ r.sv ∧ r.sv ≤ 7200)) : bnd r = false := by unfold bnd; simpa using h

set_option maxHeartbeats 4000000 in
theorem inBounds_c (r : Rl) (w : World) : Calls Tryd.prog 21 #[r.v] w fun e w' => e = .returned (.bool (bnd r)) ∧ Below w.heap.size w w' := by
  have hb : (bnd r = true ∧ 1970 ≤ r.f ∧ r.f ≤ r.t ∧ r.t ≤ 2029 ∧ 1 ≤ r.m ∧ r.m ≤ 12 ∧ 0 ≤ r.a ∧ r.a ≤ 86400 ∧ 0 ≤ r.sv ∧ r.sv ≤ 7200)
      ∨ (bnd r = false ∧ (r.f < 1970 ∨ 1970 ≤ r.f ∧ (r.t < r.f ∨ r.f ≤ r.t ∧ (2029 < r.t ∨ r.t ≤ 2029 ∧ (r.m < 1 ∨ 1 ≤ r.m ∧ (12 < r.m ∨ r.m ≤ 12 ∧ (r.a < 0 ∨ 0 ≤ r.a ∧ (86400 < r.a ∨ r.a ≤ 86400 ∧ (r.sv < 0 ∨ 0 ≤ r.sv ∧ 7200 < r.sv))))))))) := by
    cases h : bnd r
    · right
      refine ⟨rfl, ?_⟩
      unfold bnd at h
      have := of_decide_eq_false h
      omega
    · exact .inl ⟨rfl, bnd_of h⟩
  obtain ⟨f, t, m, k, wk, D, a, sv, s⟩ := r
  simp only at hb
  rcases hb with ⟨h0, h1, h2, h3, h4, h5, h6, h7, h8, h9⟩ | ⟨h0, h1 | ⟨h1, h2 | ⟨h2, h3 | ⟨h3, h4 | ⟨h4, h5 | ⟨h5, h6 | ⟨h6, h7 | ⟨h7, h8 | ⟨h8, h9⟩⟩⟩⟩⟩⟩⟩⟩⟩
  all_goals
    rw [h0]
    clear h0
    go_enter Tryd.func21, Tryd.ntmps21
    go_wp2
    go_ret
    first
      | exact ⟨rfl, (Below.refl _ _).alloc (Nat.le_refl _) _⟩
      | exact ⟨ret_bool (by simp; omega), (Below.refl _ _).alloc (Nat.le_refl _) _⟩
end Go.Proofs.YtlmhapbmebnmlabDoor

/- Contracts of the document's own answers (package gnomonref) on days. -/
import Derived.Test.YtlmhapbmebnmlabDoorDaysM
namespace Go.Proofs.YtlmhapbmebnmlabDoor
open Go Go.RowKit
set_option linter.unusedVariables false

def inB (n a b : Int) : Bool := decide (a ≤ n ∧ n ≤ b)
theorem within_c (n a b : Int) (w : World) : Calls Tryd.prog 17 #[.int .i64 n, .int .i64 a, .int .i64 b] w fun e w' => e = .returned (.bool (inB n a b)) ∧ w' = w := by
  by_cases h : a ≤ n
  all_goals
    go_enter Tryd.func17, Tryd.ntmps17
    go_wp2
    go_ret
    exact ⟨ret_bool (by unfold inB; rw [Bool.eq_iff_iff]; simp; omega), rfl⟩
theorem IsYear_c (y : Int) (w : World) : Calls Tryd.prog 25 #[.int .i64 y] w fun e w' => e = .returned (.bool (Cal.yrB y)) ∧ w' = w := by
  go_enter Tryd.func25, Tryd.ntmps25
  go_wp2_with (go_at_call 17; refine (within_c _ _ _ _).mono ?_; rintro e w' ⟨rfl, rfl⟩)
  go_ret
  exact ⟨rfl, rfl⟩
theorem RisMonth_c (y : Int) (w : World) : Calls Tryd.prog 26 #[.int .i64 y] w fun e w' => e = .returned (.bool (Cal.moB y)) ∧ w' = w := by
  go_enter Tryd.func26, Tryd.ntmps26
  go_wp2_with (go_at_call 17; refine (within_c _ _ _ _).mono ?_; rintro e w' ⟨rfl, rfl⟩)
  go_ret
  exact ⟨rfl, rfl⟩
theorem yearDays_c (y : Int) (w : World) (h : 0 ≤ y) : Calls Tryd.prog 48 #[.int .i64 y] w fun e w' => e = .returned (.int .i64 (365 + Cal.lp y)) ∧ w' = w := by
  by_cases hb : y % 4 = 0
  · have h1 : (y % 4 == 0) = true := beq_iff_eq.2 hb
    go_enter Tryd.func48, Tryd.ntmps48
    go_wp2
    go_ret
    exact ⟨ret_int (by unfold Cal.lp; omega), rfl⟩
  · have h1 : (y % 4 == 0) = false := beq_eq_false_iff_ne.2 hb
    go_enter Tryd.func48, Tryd.ntmps48
    go_wp2
    go_ret
    exact ⟨ret_int (by unfold Cal.lp; omega), rfl⟩
theorem WeekOf_c (d : Int) (w : World) (h : 0 ≤ d) (k : d < 21915) : Calls Tryd.prog 43 #[.int .i64 d] w fun e w' => e = .returned (.int .i64 ((d + 4) % 7)) ∧ w' = w := by
  go_enter Tryd.func43, Tryd.ntmps43
  go_wp2
  go_ret
  exact ⟨rfl, rfl⟩
set_option maxHeartbeats 2000000 in
theorem monthDays_c (y m : Int) (w : World) (hy : 0 ≤ y) (h1 : 1 ≤ m) (h2 : m ≤ 12) :
    Calls Tryd.prog 42 #[.int .i64 y, .int .i64 m] w fun e w' => e = .returned (.int .i64 (Cal.ml y m)) ∧ Below w.heap.size w w' := by
  have key := months m h1 h2
  by_cases hb : y % 4 = 0
  · have hb1 : (y % 4 == 0) = true := beq_iff_eq.2 hb
    rcases key with rfl | rfl | rfl | rfl | rfl | rfl | rfl | rfl | rfl | rfl | rfl | rfl
    all_goals
      go_enter Tryd.func42, Tryd.ntmps42
      go_wp2
      go_ret
      exact ⟨ret_int (by unfold Cal.ml Cal.lp; omega), (Below.refl _ _).alloc (Nat.le_refl _) _⟩
  · have hb1 : (y % 4 == 0) = false := beq_eq_false_iff_ne.2 hb
    rcases key with rfl | rfl | rfl | rfl | rfl | rfl | rfl | rfl | rfl | rfl | rfl | rfl
    all_goals
      go_enter Tryd.func42, Tryd.ntmps42
      go_wp2
      go_ret
      exact ⟨ret_int (by unfold Cal.ml Cal.lp; omega), (Below.refl _ _).alloc (Nat.le_refl _) _⟩
end Go.Proofs.YtlmhapbmebnmlabDoor

/- Contracts of package days: what each function returns, the world standing as it was, where the table of the months' days lies as it was laid. -/
import Derived.Test.YtlmhapbmebnmlabDoorProg
import Derived.Test.YtlmhapbmebnmlabDoorMath
import Derived.WalkKit
import Derived.Below
namespace Go.Proofs.YtlmhapbmebnmlabDoor
open Go Go.RowKit
set_option linter.unusedVariables false

def tab (i : Nat) : Int := if i = 1 then 28 else if i = 3 ∨ i = 5 ∨ i = 8 ∨ i = 10 then 30 else 31
/-- The table of the months' days lies in block 0. -/
def Laid (w : World) : Prop := ∀ i : Nat, i < 12 → w.cell? ⟨0, i, none⟩ = some (.int .i64 (tab i))

theorem ret_bool {a b : Bool} (h : a = b) : Ending.returned (.bool a) = .returned (.bool b) := by rw [h]
theorem ret_int {k : IntKind} {a b : Int} (h : a = b) : Ending.returned (.int k a) = .returned (.int k b) := by rw [h]

theorem isYear_c (y : Int) (w : World) : Calls Tryd.prog 44 #[.int .i64 y] w fun e w' => e = .returned (.bool (Cal.yrB y)) ∧ w' = w := by
  by_cases h : 1970 ≤ y
  all_goals
    go_enter Tryd.func44, Tryd.ntmps44
    go_wp2
    go_ret
    exact ⟨ret_bool (by unfold Cal.yrB; rw [Bool.eq_iff_iff]; simp; omega), rfl⟩
theorem isMonth_c (m : Int) (w : World) : Calls Tryd.prog 45 #[.int .i64 m] w fun e w' => e = .returned (.bool (Cal.moB m)) ∧ w' = w := by
  by_cases h : 1 ≤ m
  all_goals
    go_enter Tryd.func45, Tryd.ntmps45
    go_wp2
    go_ret
    exact ⟨ret_bool (by unfold Cal.moB; rw [Bool.eq_iff_iff]; simp; omega), rfl⟩
theorem isDay_c (m : Int) (w : World) : Calls Tryd.prog 49 #[.int .i64 m] w fun e w' => e = .returned (.bool (Cal.dayB m)) ∧ w' = w := by
  by_cases h : 0 ≤ m
  all_goals
    go_enter Tryd.func49, Tryd.ntmps49
    go_wp2
    go_ret
    exact ⟨ret_bool (by unfold Cal.dayB; rw [Bool.eq_iff_iff]; simp; omega), rfl⟩
theorem isLeap_c (y : Int) (w : World) (h : 0 ≤ y) : Calls Tryd.prog 50 #[.int .i64 y] w fun e w' => e = .returned (.bool (Cal.lpB y)) ∧ w' = w := by
  go_enter Tryd.func50, Tryd.ntmps50
  go_wp2
  go_ret
  exact ⟨ret_bool (by unfold Cal.lpB; rw [Bool.eq_iff_iff]; simp), rfl⟩

theorem months (m : Int) (h : 1 ≤ m) (k : m ≤ 12) : m = 1 ∨ m = 2 ∨ m = 3 ∨ m = 4 ∨ m = 5 ∨ m = 6 ∨ m = 7 ∨ m = 8 ∨ m = 9 ∨ m = 10 ∨ m = 11 ∨ m = 12 := by omega
theorem monthLength_two (y : Int) (w : World) (hL : Laid w) (hy : 0 ≤ y) :
    Calls Tryd.prog 46 #[.int .i64 y, .int .i64 2] w fun e w' => e = .returned (.int .i64 (Cal.ml y 2)) ∧ w' = w := by
  have hc : w.cell? ⟨0, 1, none⟩ = some (.int .i64 28) := hL 1 (by omega)
  clear hL
  cases hb : Cal.lpB y
  · have hv : Cal.ml y 2 = 28 := by unfold Cal.lpB at hb; unfold Cal.ml Cal.lp; simp at hb; omega
    rw [hv]; clear hv
    go_enter Tryd.func46, Tryd.ntmps46
    go_wp2_with (go_at_call 50; refine (isLeap_c _ _ hy).mono ?_; rintro e w' ⟨rfl, rfl⟩)
    go_ret
    exact ⟨rfl, rfl⟩
  · have hv : Cal.ml y 2 = 29 := by unfold Cal.lpB at hb; unfold Cal.ml Cal.lp; simp at hb; omega
    rw [hv]; clear hv
    go_enter Tryd.func46, Tryd.ntmps46
    go_wp2_with (go_at_call 50; refine (isLeap_c _ _ hy).mono ?_; rintro e w' ⟨rfl, rfl⟩)
    go_ret
    exact ⟨rfl, rfl⟩
theorem monthLength_c (y m : Int) (w : World) (hL : Laid w) (hy : 0 ≤ y) (h1 : 1 ≤ m) (h2 : m ≤ 12) :
    Calls Tryd.prog 46 #[.int .i64 y, .int .i64 m] w fun e w' => e = .returned (.int .i64 (Cal.ml y m)) ∧ w' = w := by
  by_cases h : m = 2
  · subst h; exact monthLength_two y w hL hy
  · have hc : w.cell? ⟨0, m.toNat - 1, none⟩ = some (.int .i64 (Cal.ml y m)) := by
      rw [hL _ (by omega)]
      congr 2
      unfold tab Cal.ml
      omega
    clear hL
    have hne : (m == 2) = false := beq_eq_false_iff_ne.2 h
    go_enter Tryd.func46, Tryd.ntmps46
    go_wp2
    go_ret
    exact ⟨rfl, rfl⟩
theorem daysAhead_c (y : Int) (w : World) (h : 1970 ≤ y) (k : y ≤ 2030) :
    Calls Tryd.prog 47 #[.int .i64 y] w fun e w' => e = .returned (.int .i64 (Cal.ahead y)) ∧ w' = w := by
  go_enter Tryd.func47, Tryd.ntmps47
  go_wp2
  go_ret
  exact ⟨ret_int (by unfold Cal.ahead; omega), rfl⟩

/-- Leap: the answer, and the error. -/
def leapR (y : Int) : Bool := Cal.yrB y && Cal.lpB y
def leapE (y : Int) : Int := if Cal.yrB y then 0 else 3
def weekR (d : Int) : Int := if Cal.dayB d then (d + 4) % 7 else 0
def weekE (d : Int) : Int := if Cal.dayB d then 0 else 3
theorem Week_c (d : Int) (w : World) : Calls Tryd.prog 39 #[.int .i64 d] w fun e w' => e = .returned (.tuple #[.int .i64 (weekR d), .int .i64 (weekE d)]) ∧ w' = w := by
  cases h : Cal.dayB d
  · have e1 : weekR d = 0 := by simp [weekR, h]
    have e2 : weekE d = 3 := by simp [weekE, h]
    rw [e1, e2]; clear e1 e2
    go_enter Tryd.func39, Tryd.ntmps39
    go_wp2_with (go_at_call 49; refine (isDay_c _ _).mono ?_; rintro e w' ⟨rfl, rfl⟩)
    go_ret2
    exact ⟨rfl, rfl⟩
  · have e1 : weekR d = (d + 4) % 7 := by simp [weekR, h]
    have e2 : weekE d = 0 := by simp [weekE, h]
    have h1 : 0 ≤ d := by unfold Cal.dayB at h; simp at h; omega
    have h2 : d < 21915 := by unfold Cal.dayB at h; simp at h; omega
    rw [e1, e2]; clear e1 e2
    go_enter Tryd.func39, Tryd.ntmps39
    go_wp2_with (go_at_call 49; refine (isDay_c _ _).mono ?_; rintro e w' ⟨rfl, rfl⟩)
    go_ret2
    exact ⟨rfl, rfl⟩
end Go.Proofs.YtlmhapbmebnmlabDoor

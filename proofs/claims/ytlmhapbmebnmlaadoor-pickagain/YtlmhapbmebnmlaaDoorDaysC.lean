/- Contracts of package days, closed: Date whatever it is handed, and the statements' own daysBegun. -/
import Derived.Test.YtlmhapbmebnmlaaDoorDaysB
namespace Go.Proofs.YtlmhapbmebnmlaaDoor
open Go Go.RowKit
set_option linter.unusedVariables false

theorem Date_c (day : Int) (w : World) (hL : Laid w) :
    Calls Tryd.prog 11 #[.int .i64 day] w fun e w' => e = .returned (.tuple #[.int .i64 (dateY day), .int .i64 (dateM day), .int .i64 (dateD day), .int .i64 (weekE day)]) ∧ w' = w := by
  cases h : Cal.dayB day
  · have e1 : dateY day = 0 := by simp [dateY, h]
    have e2 : dateM day = 0 := by simp [dateM, h]
    have e3 : dateD day = 0 := by simp [dateD, h]
    have e4 : weekE day = 3 := by simp [weekE, h]
    rw [e1, e2, e3, e4]; clear e1 e2 e3 e4 hL
    go_enter Tryd.func11, Tryd.ntmps11
    go_wp2_with (go_at_call 29; refine (isDay_c _ _).mono ?_; rintro e w' ⟨rfl, rfl⟩)
    exact bodyPost_ret (v := .tuple #[.int .i64 0, .int .i64 0, .int .i64 0, .int .i64 3]) (by simp [results, Tryd.results11, go_sem]) rfl ⟨rfl, rfl⟩
  · have e1 : dateY day = Cal.yOf day := by simp [dateY, h]
    have e2 : dateM day = Cal.monOf day := by simp [dateM, h]
    have e3 : dateD day = Cal.domOf day := by simp [dateD, h]
    have e4 : weekE day = 0 := by simp [weekE, h]
    rw [e1, e2, e3, e4]
    exact Date_yes day w hL (day_of h).1 (day_of h).2

theorem daysBegun_c (w : World) (hL : Laid w) : Calls Tryd.prog 16 #[] w fun e w' => e = .returned (.bool true) ∧ w' = w := by
  have HL : Hid (Laid w) := hL
  clear hL
  have a1 : leapR 2000 = true := by decide
  have a2 : leapE 2000 = 0 := by decide
  have a3 : daysR 2000 3 1 = 11017 := by decide
  have a4 : daysE 2000 3 1 = 0 := by decide
  have a5 : dateY 11017 = 2000 := by decide
  have a6 : dateM 11017 = 3 := by decide
  have a7 : dateD 11017 = 1 := by decide
  have a8 : weekE 11017 = 0 := by decide
  have a9 : weekR 11017 = 3 := by decide
  have b1 : daysE 2001 2 29 = 3 := by decide
  go_enter Tryd.func16, Tryd.ntmps16
  go_wp2_with (first
    | (go_at_call 9; refine (Leap_c _ _).mono ?_; rintro e w' ⟨rfl, rfl⟩)
    | (go_at_call 10; refine (Days_c _ _ _ _ HL.out).mono ?_; rintro e w' ⟨rfl, rfl⟩)
    | (go_at_call 11; refine (Date_c _ _ HL.out).mono ?_; rintro e w' ⟨rfl, rfl⟩)
    | (go_at_call 12; refine (Week_c _ _).mono ?_; rintro e w' ⟨rfl, rfl⟩))
  go_ret
  exact ⟨rfl, rfl⟩
end Go.Proofs.YtlmhapbmebnmlaaDoor

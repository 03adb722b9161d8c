/- Contracts of package days: Days and Date, and of the statements' own daysBegun. -/
import Derived.Test.YtlmhapbmebnmlabDoorDaysA
namespace Go.Proofs.YtlmhapbmebnmlabDoor
open Go Go.RowKit
set_option linter.unusedVariables false

theorem yr_of {y : Int} (h : Cal.yrB y = true) : 1970 ≤ y ∧ y ≤ 2029 := by unfold Cal.yrB at h; simpa using h
theorem yr_not {y : Int} (h : Cal.yrB y = false) : ¬ (1970 ≤ y ∧ y ≤ 2029) := by unfold Cal.yrB at h; simpa using h
theorem mo_of {y : Int} (h : Cal.moB y = true) : 1 ≤ y ∧ y ≤ 12 := by unfold Cal.moB at h; simpa using h
theorem mo_not {y : Int} (h : Cal.moB y = false) : ¬ (1 ≤ y ∧ y ≤ 12) := by unfold Cal.moB at h; simpa using h
theorem day_of {y : Int} (h : Cal.dayB y = true) : 0 ≤ y ∧ y < 21915 := by unfold Cal.dayB at h; simpa using h
theorem day_mk {y : Int} (h : 0 ≤ y ∧ y < 21915) : Cal.dayB y = true := by unfold Cal.dayB; simpa using h
theorem ok_not {y m d : Int} (h : ¬ (1970 ≤ y ∧ y ≤ 2029 ∧ 1 ≤ m ∧ m ≤ 12 ∧ 1 ≤ d ∧ d ≤ Cal.ml y m)) : Cal.okB y m d = false := by unfold Cal.okB; simpa using h
theorem ok_mk {y m d : Int} (h : (1970 ≤ y ∧ y ≤ 2029 ∧ 1 ≤ m ∧ m ≤ 12 ∧ 1 ≤ d ∧ d ≤ Cal.ml y m)) : Cal.okB y m d = true := by unfold Cal.okB; simpa using h
theorem ok_of {y m d : Int} (h : Cal.okB y m d = true) : (1970 ≤ y ∧ y ≤ 2029 ∧ 1 ≤ m ∧ m ≤ 12 ∧ 1 ≤ d ∧ d ≤ Cal.ml y m) := by unfold Cal.okB at h; simpa using h

def daysR (y m d : Int) : Int := if Cal.okB y m d then Cal.num y m d else 0
def daysE (y m d : Int) : Int := if Cal.okB y m d then 0 else 3

/-- The loop of Days sums up the months. -/
theorem Days_yes (y m d : Int) (w : World) (hL : Laid w) (hy1 : 1970 ≤ y) (hy2 : y ≤ 2029) (hm1 : 1 ≤ m) (hm2 : m ≤ 12) (hd1 : 1 ≤ d) (hd2 : d ≤ Cal.ml y m) :
    Calls Tryd.prog 33 #[.int .i64 y, .int .i64 m, .int .i64 d] w fun e w' => e = .returned (.tuple #[.int .i64 (Cal.num y m d), .int .i64 0]) ∧ w' = w := by
  have hyr : Cal.yrB y = true := by unfold Cal.yrB; simp; omega
  have hmo : Cal.moB m = true := by unfold Cal.moB; simp; omega
  have hb := Cal.ml_bd y m
  have ha := Cal.ahead_bd y hy1 (by omega)
  have HL : Hid (Laid w) := hL
  clear hL
  go_enter Tryd.func33, Tryd.ntmps33
  go_wp2_with (first
    | (go_at_call 44; refine (isYear_c _ _).mono ?_; rintro e w' ⟨rfl, rfl⟩)
    | (go_at_call 45; refine (isMonth_c _ _).mono ?_; rintro e w' ⟨rfl, rfl⟩)
    | (go_at_call 46; refine (monthLength_c _ _ _ HL.out (by omega) (by omega) (by omega)).mono ?_; rintro e w' ⟨rfl, rfl⟩)
    | (go_at_call 47; refine (daysAhead_c _ _ (by omega) (by omega)).mono ?_; rintro e w' ⟨rfl, rfl⟩))
  go_loop [8, 9] (fun n k => ∃ j : Int, 1 ≤ j ∧ j ≤ m ∧ k = .int .i64 j ∧ n = .int .i64 (Cal.ahead y + d - 1 + Cal.cum y j)) (fun _ k => (m - intOf k).toNat)
  case atStart => exact ⟨1, by omega, hm1, rfl, by rw [Cal.cum_one]; go_num⟩
  case round =>
    obtain ⟨j, hj1, hj2, rfl, rfl⟩ := hrel
    have cb := Cal.cum_bd y j
    have lb := Cal.ml_bd y j
    by_cases hlt : j < m
    · have HS : Hid (Cal.cum y (j + 1) = Cal.cum y j + Cal.ml y j) := Cal.cum_succ y j (by omega) (by omega)
      go_wp2_with (go_at_call 46; refine (monthLength_c _ _ _ HL.out (by omega) (by omega) (by omega)).mono ?_; rintro e w' ⟨rfl, rfl⟩)
      go_round
      case rel => exact ⟨j + 1, by omega, by omega, rfl, by rw [HS.out]; go_num⟩
      case measure => simp [intOf]; omega
    · have hjm : j = m := by omega
      subst hjm
      go_wp2
      go_ret2
      exact ⟨rfl, rfl⟩

theorem Days_c (y m d : Int) (w : World) (hL : Laid w) :
    Calls Tryd.prog 33 #[.int .i64 y, .int .i64 m, .int .i64 d] w fun e w' => e = .returned (.tuple #[.int .i64 (daysR y m d), .int .i64 (daysE y m d)]) ∧ w' = w := by
  cases hok : Cal.okB y m d
  · have e1 : daysR y m d = 0 := by simp [daysR, hok]
    have e2 : daysE y m d = 3 := by simp [daysE, hok]
    rw [e1, e2]; clear e1 e2
    unfold Cal.okB at hok
    have hok' := of_decide_eq_false hok
    clear hok
    cases hyr : Cal.yrB y
    · clear hok' hL
      go_enter Tryd.func33, Tryd.ntmps33
      go_wp2_with (go_at_call 44; refine (isYear_c _ _).mono ?_; rintro e w' ⟨rfl, rfl⟩)
      go_ret2
      exact ⟨rfl, rfl⟩
    · have hy := yr_of hyr
      cases hmo : Cal.moB m
      · clear hok' hL
        go_enter Tryd.func33, Tryd.ntmps33
        go_wp2_with (first
          | (go_at_call 44; refine (isYear_c _ _).mono ?_; rintro e w' ⟨rfl, rfl⟩)
          | (go_at_call 45; refine (isMonth_c _ _).mono ?_; rintro e w' ⟨rfl, rfl⟩))
        go_ret2
        exact ⟨rfl, rfl⟩
      · have hm := mo_of hmo
        by_cases hd : d < 1
        · clear hok' hL
          go_enter Tryd.func33, Tryd.ntmps33
          go_wp2_with (first
            | (go_at_call 44; refine (isYear_c _ _).mono ?_; rintro e w' ⟨rfl, rfl⟩)
            | (go_at_call 45; refine (isMonth_c _ _).mono ?_; rintro e w' ⟨rfl, rfl⟩))
          go_ret2
          exact ⟨rfl, rfl⟩
        · have hg : Cal.ml y m < d := by omega
          have HL : Hid (Laid w) := hL
          clear hL hok'
          go_enter Tryd.func33, Tryd.ntmps33
          go_wp2_with (first
            | (go_at_call 44; refine (isYear_c _ _).mono ?_; rintro e w' ⟨rfl, rfl⟩)
            | (go_at_call 45; refine (isMonth_c _ _).mono ?_; rintro e w' ⟨rfl, rfl⟩)
            | (go_at_call 46; refine (monthLength_c _ _ _ HL.out (by omega) (by omega) (by omega)).mono ?_; rintro e w' ⟨rfl, rfl⟩))
          go_ret2
          exact ⟨rfl, rfl⟩
  · have e1 : daysR y m d = Cal.num y m d := by simp [daysR, hok]
    have e2 : daysE y m d = 0 := by simp [daysE, hok]
    rw [e1, e2]
    obtain ⟨a, b, c, d, e, f⟩ := ok_of hok
    exact Days_yes _ _ _ w hL a b c d e f

def dateY (d : Int) : Int := if Cal.dayB d then Cal.yOf d else 0
def dateM (d : Int) : Int := if Cal.dayB d then Cal.monOf d else 0
def dateD (d : Int) : Int := if Cal.dayB d then Cal.domOf d else 0
end Go.Proofs.YtlmhapbmebnmlabDoor

/- Contracts of package days: Days and Date, and of the statements' own daysBegun. -/
import Derived.Test.YtlmhapbmebnmlaaDoorDaysA
namespace Go.Proofs.YtlmhapbmebnmlaaDoor
open Go Go.RowKit
set_option linter.unusedVariables false

theorem yr_of {y : Int} (h : Cal.yrB y = true) : 1970 ≤ y ∧ y ≤ 2029 := by unfold Cal.yrB at h; simpa using h
theorem yr_not {y : Int} (h : Cal.yrB y = false) : ¬ (1970 ≤ y ∧ y ≤ 2029) := by unfold Cal.yrB at h; simpa using h
theorem mo_of {y : Int} (h : Cal.moB y = true) : 1 ≤ y ∧ y ≤ 12 := by unfold Cal.moB at h; simpa using h
theorem mo_not {y : Int} (h : Cal.moB y = false) : ¬ (1 ≤ y ∧ y ≤ 12) := by unfold Cal.moB at h; simpa using h
theorem day_of {y : Int} (h : Cal.dayB y = true) : 0 ≤ y ∧ y < 21915 := by unfold Cal.dayB at h; simpa using h
theorem day_mk {y : Int} (h : 0 ≤ y ∧ y < 21915) : Cal.dayB y = true := by unfold Cal.dayB; simpa using h
theorem ok_not {y m d : Int} (h : ¬ (1970 ≤ y ∧ y ≤ 2029 ∧ 1 ≤ m ∧ m ≤ 12 ∧ 1 ≤ d ∧ d ≤ Cal.ml y m)) : Cal.okB y m d = false := by unfold Cal.okB; simpa using h
theorem ok_mk {y m d : Int} (h : (1970 ≤ y ∧ y ≤ 2029 ∧ 1 ≤ m ∧ m ≤ 12 ∧ 1 ≤ d ∧ d ≤ Cal.ml y m)) : Cal.okB y m d = true := by unfold Cal.okB; simpa using h
theorem ok_of {y m d : Int} (h : Cal.okB y m d = true) : (1970 ≤ y ∧ y ≤ 2029 ∧ 1 ≤ m ∧ m ≤ 12 ∧ 1 ≤ d ∧ d ≤ Cal.ml y m) := by unfold Cal.okB at h; simpa using h

def daysR (y m d : Int) : Int := if Cal.okB y m d then Cal.num y m d else 0
def daysE (y m d : Int) : Int := if Cal.okB y m d then 0 else 3

/-- The loop of Days sums up the months. -/
theorem Days_yes (y m d : Int) (w : World) (hL : Laid w) (hy1 : 1970 ≤ y) (hy2 : y ≤ 2029) (hm1 : 1 ≤ m) (hm2 : m ≤ 12) (hd1 : 1 ≤ d) (hd2 : d ≤ Cal.ml y m) :
    Calls Tryd.prog 10 #[.int .i64 y, .int .i64 m, .int .i64 d] w fun e w' => e = .returned (.tuple #[.int .i64 (Cal.num y m d), .int .i64 0]) ∧ w' = w := by
  have hyr : Cal.yrB y = true := by unfold Cal.yrB; simp; omega
  have hmo : Cal.moB m = true := by unfold Cal.moB; simp; omega
  have hb := Cal.ml_bd y m
  have ha := Cal.ahead_bd y hy1 (by omega)
  have HL : Hid (Laid w) := hL
  clear hL
  go_enter Tryd.func10, Tryd.ntmps10
  go_wp2_with (first
    | (go_at_call 24; refine (isYear_c _ _).mono ?_; rintro e w' ⟨rfl, rfl⟩)
    | (go_at_call 26; refine (isMonth_c _ _).mono ?_; rintro e w' ⟨rfl, rfl⟩)
    | (go_at_call 27; refine (monthLength_c _ _ _ HL.out (by omega) (by omega) (by omega)).mono ?_; rintro e w' ⟨rfl, rfl⟩)
    | (go_at_call 28; refine (daysAhead_c _ _ (by omega) (by omega)).mono ?_; rintro e w' ⟨rfl, rfl⟩))
  go_loop [8, 9] (fun n k => ∃ j : Int, 1 ≤ j ∧ j ≤ m ∧ k = .int .i64 j ∧ n = .int .i64 (Cal.ahead y + d - 1 + Cal.cum y j)) (fun _ k => (m - intOf k).toNat)
  case atStart => exact ⟨1, by omega, hm1, rfl, by rw [Cal.cum_one]; go_num⟩
  case round =>
    obtain ⟨j, hj1, hj2, rfl, rfl⟩ := hrel
    have cb := Cal.cum_bd y j
    have lb := Cal.ml_bd y j
    by_cases hlt : j < m
    · have HS : Hid (Cal.cum y (j + 1) = Cal.cum y j + Cal.ml y j) := Cal.cum_succ y j (by omega) (by omega)
      go_wp2_with (go_at_call 27; refine (monthLength_c _ _ _ HL.out (by omega) (by omega) (by omega)).mono ?_; rintro e w' ⟨rfl, rfl⟩)
      go_round
      case rel => exact ⟨j + 1, by omega, by omega, rfl, by rw [HS.out]; go_num⟩
      case measure => simp [intOf]; omega
    · have hjm : j = m := by omega
      subst hjm
      go_wp2
      go_ret2
      exact ⟨rfl, rfl⟩

theorem Days_c (y m d : Int) (w : World) (hL : Laid w) :
    Calls Tryd.prog 10 #[.int .i64 y, .int .i64 m, .int .i64 d] w fun e w' => e = .returned (.tuple #[.int .i64 (daysR y m d), .int .i64 (daysE y m d)]) ∧ w' = w := by
  cases hok : Cal.okB y m d
  · have e1 : daysR y m d = 0 := by simp [daysR, hok]
    have e2 : daysE y m d = 3 := by simp [daysE, hok]
    rw [e1, e2]; clear e1 e2
    unfold Cal.okB at hok
    have hok' := of_decide_eq_false hok
    clear hok
    cases hyr : Cal.yrB y
    · clear hok' hL
      go_enter Tryd.func10, Tryd.ntmps10
      go_wp2_with (go_at_call 24; refine (isYear_c _ _).mono ?_; rintro e w' ⟨rfl, rfl⟩)
      go_ret2
      exact ⟨rfl, rfl⟩
    · have hy := yr_of hyr
      cases hmo : Cal.moB m
      · clear hok' hL
        go_enter Tryd.func10, Tryd.ntmps10
        go_wp2_with (first
          | (go_at_call 24; refine (isYear_c _ _).mono ?_; rintro e w' ⟨rfl, rfl⟩)
          | (go_at_call 26; refine (isMonth_c _ _).mono ?_; rintro e w' ⟨rfl, rfl⟩))
        go_ret2
        exact ⟨rfl, rfl⟩
      · have hm := mo_of hmo
        by_cases hd : d < 1
        · clear hok' hL
          go_enter Tryd.func10, Tryd.ntmps10
          go_wp2_with (first
            | (go_at_call 24; refine (isYear_c _ _).mono ?_; rintro e w' ⟨rfl, rfl⟩)
            | (go_at_call 26; refine (isMonth_c _ _).mono ?_; rintro e w' ⟨rfl, rfl⟩))
          go_ret2
          exact ⟨rfl, rfl⟩
        · have hg : Cal.ml y m < d := by omega
          have HL : Hid (Laid w) := hL
          clear hL hok'
          go_enter Tryd.func10, Tryd.ntmps10
          go_wp2_with (first
            | (go_at_call 24; refine (isYear_c _ _).mono ?_; rintro e w' ⟨rfl, rfl⟩)
            | (go_at_call 26; refine (isMonth_c _ _).mono ?_; rintro e w' ⟨rfl, rfl⟩)
            | (go_at_call 27; refine (monthLength_c _ _ _ HL.out (by omega) (by omega) (by omega)).mono ?_; rintro e w' ⟨rfl, rfl⟩))
          go_ret2
          exact ⟨rfl, rfl⟩
  · have e1 : daysR y m d = Cal.num y m d := by simp [daysR, hok]
    have e2 : daysE y m d = 0 := by simp [daysE, hok]
    rw [e1, e2]
    obtain ⟨a, b, c, d, e, f⟩ := ok_of hok
    exact Days_yes _ _ _ w hL a b c d e f

def dateY (d : Int) : Int := if Cal.dayB d then Cal.yOf d else 0
def dateM (d : Int) : Int := if Cal.dayB d then Cal.monOf d else 0
def dateD (d : Int) : Int := if Cal.dayB d then Cal.domOf d else 0
theorem Date_yes (day : Int) (w : World) (hL : Laid w) (h1 : 0 ≤ day) (h2 : day < 21915) :
    Calls Tryd.prog 11 #[.int .i64 day] w fun e w' => e = .returned (.tuple #[.int .i64 (Cal.yOf day), .int .i64 (Cal.monOf day), .int .i64 (Cal.domOf day), .int .i64 0]) ∧ w' = w := by
  have hdy : Cal.dayB day = true := by unfold Cal.dayB; simp; omega
  obtain ⟨y1, y2, y3, y4⟩ := Cal.yOf_spec day h1 h2
  have hs := Cal.ahead_succ (Cal.yOf day)
  have hl := Cal.lp01 (Cal.yOf day)
  have ms := Cal.mOf_spec (Cal.yOf day) (day - Cal.ahead (Cal.yOf day)) (by omega) (by omega)
  have HL : Hid (Laid w) := hL
  have hg := Cal.ahead_bd (1970 + day / 365) (by omega) (by omega)
  have ha := Cal.ahead_bd (Cal.yOf day) (by omega) (by omega)
  unfold Cal.monOf Cal.domOf Cal.monOf
  have HY : Hid (Cal.yOf day = if day < Cal.ahead (1970 + day / 365) then 1970 + day / 365 - 1 else 1970 + day / 365) := rfl
  generalize Cal.yOf day = y at *
  generalize hr : day - Cal.ahead y = r at *
  have HR : Hid (day - Cal.ahead y = r) := hr
  generalize hm : Cal.mOf y r = mm at *
  clear hL hm hr
  have hr0 : 0 ≤ r := by have := HR.out; omega
  have hr1 : r ≤ 366 := by have := HR.out; omega
  by_cases hq : day < Cal.ahead (1970 + day / 365)
  · have HY' : Hid (y = 1970 + day / 365 - 1) := by have := HY.out; rw [if_pos hq] at this; exact this
    clear HY
    go_enter Tryd.func11, Tryd.ntmps11
    go_wp2_with (first
      | (go_at_call 29; refine (isDay_c _ _).mono ?_; rintro e w' ⟨rfl, rfl⟩)
      | (go_at_call 28; refine (daysAhead_c _ _ (by omega) (by omega)).mono ?_; rintro e w' ⟨rfl, rfl⟩))
    rw [show (1970 + day / 365 - 1) = y from HY'.out.symm]
    clear hg hq
    refine (daysAhead_c _ _ y1 (by omega)).mono ?_
    rintro e w' ⟨rfl, rfl⟩
    go_wp2_with fail
    rw [HR.out]
    go_loop [7, 8] (fun q k => ∃ j : Int, 1 ≤ j ∧ j ≤ mm ∧ k = .int .i64 j ∧ q = .int .i64 (r - Cal.cum y j)) (fun _ k => (mm - intOf k).toNat)
    case atStart => exact ⟨1, by omega, by omega, rfl, by rw [Cal.cum_one]; go_num⟩
    case round =>
      obtain ⟨j, hj1, hj2, rfl, rfl⟩ := hrel
      have cb := Cal.cum_bd y j
      have lb := Cal.ml_bd y j
      have cs := Cal.cum_succ y j (by omega) (by omega)
      by_cases hlt : j < mm
      · have cm := Cal.cum_mono y (j + 1) mm (by omega)
        have hge : Cal.ml y j ≤ r - Cal.cum y j := by omega
        have HS : Hid (Cal.cum y (j + 1) = Cal.cum y j + Cal.ml y j) := cs
        clear cs cm
        go_wp2_with (go_at_call 27; refine (monthLength_c _ _ _ HL.out (by omega) (by omega) (by omega)).mono ?_; rintro e w' ⟨rfl, rfl⟩)
        go_round
        case rel => exact ⟨j + 1, by omega, by omega, rfl, by rw [HS.out]; go_num⟩
        case measure => simp [intOf]; omega
      · have hjm : j = mm := by omega
        subst hjm
        clear cs
        have hge : ¬ Cal.ml y j ≤ r - Cal.cum y j := by omega
        go_wp2_with (go_at_call 27; refine (monthLength_c _ _ _ HL.out (by omega) (by omega) (by omega)).mono ?_; rintro e w' ⟨rfl, rfl⟩)
        exact bodyPost_ret (v := .tuple #[.int .i64 y, .int .i64 j, .int .i64 (r - Cal.cum y j + 1), .int .i64 0]) (by simp [results, Tryd.results11, go_sem]) rfl ⟨rfl, rfl⟩
  · have HY' : Hid (y = 1970 + day / 365) := by have := HY.out; rw [if_neg hq] at this; exact this
    clear HY
    go_enter Tryd.func11, Tryd.ntmps11
    go_wp2_with (first
      | (go_at_call 29; refine (isDay_c _ _).mono ?_; rintro e w' ⟨rfl, rfl⟩)
      | (go_at_call 28; (rw [show (1970 + day / 365) = y from HY'.out.symm]; fail)))
    refine (daysAhead_c _ _ (by omega) (by omega)).mono ?_
    rintro e w' ⟨rfl, rfl⟩
    go_wp2_with fail
    rw [show (1970 + day / 365) = y from HY'.out.symm]
    clear hg hq
    refine (daysAhead_c _ _ y1 (by omega)).mono ?_
    rintro e w' ⟨rfl, rfl⟩
    go_wp2_with fail
    rw [HR.out]
    go_loop [7, 8] (fun q k => ∃ j : Int, 1 ≤ j ∧ j ≤ mm ∧ k = .int .i64 j ∧ q = .int .i64 (r - Cal.cum y j)) (fun _ k => (mm - intOf k).toNat)
    case atStart => exact ⟨1, by omega, by omega, rfl, by rw [Cal.cum_one]; go_num⟩
    case round =>
      obtain ⟨j, hj1, hj2, rfl, rfl⟩ := hrel
      have cb := Cal.cum_bd y j
      have lb := Cal.ml_bd y j
      have cs := Cal.cum_succ y j (by omega) (by omega)
      by_cases hlt : j < mm
      · have cm := Cal.cum_mono y (j + 1) mm (by omega)
        have hge : Cal.ml y j ≤ r - Cal.cum y j := by omega
        have HS : Hid (Cal.cum y (j + 1) = Cal.cum y j + Cal.ml y j) := cs
        clear cs cm
        go_wp2_with (go_at_call 27; refine (monthLength_c _ _ _ HL.out (by omega) (by omega) (by omega)).mono ?_; rintro e w' ⟨rfl, rfl⟩)
        go_round
        case rel => exact ⟨j + 1, by omega, by omega, rfl, by rw [HS.out]; go_num⟩
        case measure => simp [intOf]; omega
      · have hjm : j = mm := by omega
        subst hjm
        clear cs
        have hge : ¬ Cal.ml y j ≤ r - Cal.cum y j := by omega
        go_wp2_with (go_at_call 27; refine (monthLength_c _ _ _ HL.out (by omega) (by omega) (by omega)).mono ?_; rintro e w' ⟨rfl, rfl⟩)
        exact bodyPost_ret (v := .tuple #[.int .i64 y, .int .i64 j, .int .i64 (r - Cal.cum y j + 1), .int .i64 0]) (by simp [results, Tryd.results11, go_sem]) rfl ⟨rfl, rfl⟩
end Go.Proofs.YtlmhapbmebnmlaaDoor

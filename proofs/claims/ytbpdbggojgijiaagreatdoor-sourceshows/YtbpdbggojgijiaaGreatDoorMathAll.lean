/- Plain facts on days, months and years: no program is named here. -/
import Derived.KernelRfl
import Derived.Test.YtbpdbggojgijiaaGreatDoorProg
import Derived.WalkKit
import Derived.Below
namespace Go.Proofs.YtbpdbggojgijiaaGreatDoor
namespace Cal
def lp (y : Int) : Int := if y % 4 = 0 then 1 else 0
def ml (y m : Int) : Int := if m = 2 then 28 + lp y else if m = 4 ∨ m = 6 ∨ m = 9 ∨ m = 11 then 30 else 31
/-- how many days lie ahead of month m in year y -/
def cum (y m : Int) : Int :=
  if m ≤ 1 then 0 else if m = 2 then 31 else if m = 3 then 59 + lp y else if m = 4 then 90 + lp y else if m = 5 then 120 + lp y
  else if m = 6 then 151 + lp y else if m = 7 then 181 + lp y else if m = 8 then 212 + lp y else if m = 9 then 243 + lp y
  else if m = 10 then 273 + lp y else if m = 11 then 304 + lp y else if m = 12 then 334 + lp y else 365 + lp y
/-- how many days lie ahead of year y -/
def ahead (y : Int) : Int := (y - 1970) * 365 + ((y - 1) / 4 - 492)
def num (y m d : Int) : Int := ahead y + d - 1 + cum y m
def yrB (y : Int) : Bool := decide (1970 ≤ y ∧ y ≤ 2029)
def moB (m : Int) : Bool := decide (1 ≤ m ∧ m ≤ 12)
def dayB (day : Int) : Bool := decide (0 ≤ day ∧ day < 21915)
def lpB (y : Int) : Bool := decide (y % 4 = 0)
/-- is it a date? -/
def okB (y m d : Int) : Bool := decide (1970 ≤ y ∧ y ≤ 2029 ∧ 1 ≤ m ∧ m ≤ 12 ∧ 1 ≤ d ∧ d ≤ ml y m)
def yOf (day : Int) : Int := if day < ahead (1970 + day / 365) then 1970 + day / 365 - 1 else 1970 + day / 365
def mOf (y r : Int) : Int :=
  if r < 31 then 1 else if r < 59 + lp y then 2 else if r < 90 + lp y then 3 else if r < 120 + lp y then 4 else if r < 151 + lp y then 5
  else if r < 181 + lp y then 6 else if r < 212 + lp y then 7 else if r < 243 + lp y then 8 else if r < 273 + lp y then 9
  else if r < 304 + lp y then 10 else if r < 334 + lp y then 11 else 12
def monOf (day : Int) : Int := mOf (yOf day) (day - ahead (yOf day))
def domOf (day : Int) : Int := day - ahead (yOf day) - cum (yOf day) (monOf day) + 1

theorem lp01 (y : Int) : 0 ≤ lp y ∧ lp y ≤ 1 := by unfold lp; omega
theorem ml_bd (y m : Int) : 28 ≤ ml y m ∧ ml y m ≤ 31 := by unfold ml lp; omega
theorem cum_bd (y m : Int) : 0 ≤ cum y m ∧ cum y m ≤ 366 := by unfold cum lp; omega
theorem cum_one (y : Int) : cum y 1 = 0 := by unfold cum; omega
theorem cum_succ (y m : Int) (h : 1 ≤ m) (k : m ≤ 12) : cum y (m + 1) = cum y m + ml y m := by unfold cum ml lp; omega
theorem cum_mono (y m n : Int) (h : m ≤ n) : cum y m ≤ cum y n := by unfold cum lp; omega
theorem ahead_bd (y : Int) (h : 1970 ≤ y) (k : y ≤ 2030) : 0 ≤ ahead y ∧ ahead y ≤ 21915 := by unfold ahead; omega
theorem ahead_succ (y : Int) : ahead (y + 1) = ahead y + 365 + lp y := by unfold ahead lp; omega
theorem yOf_spec (day : Int) (h : 0 ≤ day) (k : day < 21915) : 1970 ≤ yOf day ∧ yOf day ≤ 2029 ∧ ahead (yOf day) ≤ day ∧ day < ahead (yOf day + 1) := by
  unfold yOf ahead; omega
theorem y_unique (y z day : Int) (a : ahead y ≤ day) (b : day < ahead (y + 1)) (c : ahead z ≤ day) (d : day < ahead (z + 1)) : y = z := by
  unfold ahead at *; omega
theorem mOf_spec (y r : Int) (h : 0 ≤ r) (k : r < 365 + lp y) : 1 ≤ mOf y r ∧ mOf y r ≤ 12 ∧ cum y (mOf y r) ≤ r ∧ r < cum y (mOf y r) + ml y (mOf y r) := by
  have hl := lp01 y
  have key : (0 ≤ r ∧ r < 31) ∨ (31 ≤ r ∧ r < 59 + lp y) ∨ (59 + lp y ≤ r ∧ r < 90 + lp y) ∨ (90 + lp y ≤ r ∧ r < 120 + lp y) ∨ (120 + lp y ≤ r ∧ r < 151 + lp y) ∨ (151 + lp y ≤ r ∧ r < 181 + lp y) ∨ (181 + lp y ≤ r ∧ r < 212 + lp y) ∨ (212 + lp y ≤ r ∧ r < 243 + lp y) ∨ (243 + lp y ≤ r ∧ r < 273 + lp y) ∨ (273 + lp y ≤ r ∧ r < 304 + lp y) ∨ (304 + lp y ≤ r ∧ r < 334 + lp y) ∨ (334 + lp y ≤ r ∧ r < 365 + lp y) := by omega
  rcases key with ⟨h1, h2⟩ | ⟨h1, h2⟩ | ⟨h1, h2⟩ | ⟨h1, h2⟩ | ⟨h1, h2⟩ | ⟨h1, h2⟩ | ⟨h1, h2⟩ | ⟨h1, h2⟩ | ⟨h1, h2⟩ | ⟨h1, h2⟩ | ⟨h1, h2⟩ | ⟨h1, h2⟩
  · have e : mOf y r = 1 := by unfold mOf; rw [if_pos (by omega)]
    rw [e]; unfold cum ml; omega
  · have e : mOf y r = 2 := by unfold mOf; rw [if_neg (by omega)]; rw [if_pos (by omega)]
    rw [e]; unfold cum ml; omega
  · have e : mOf y r = 3 := by unfold mOf; rw [if_neg (by omega)]; rw [if_neg (by omega)]; rw [if_pos (by omega)]
    rw [e]; unfold cum ml; omega
  · have e : mOf y r = 4 := by unfold mOf; rw [if_neg (by omega)]; rw [if_neg (by omega)]; rw [if_neg (by omega)]; rw [if_pos (by omega)]
    rw [e]; unfold cum ml; omega
  · have e : mOf y r = 5 := by unfold mOf; rw [if_neg (by omega)]; rw [if_neg (by omega)]; rw [if_neg (by omega)]; rw [if_neg (by omega)]; rw [if_pos (by omega)]
    rw [e]; unfold cum ml; omega
  · have e : mOf y r = 6 := by unfold mOf; rw [if_neg (by omega)]; rw [if_neg (by omega)]; rw [if_neg (by omega)]; rw [if_neg (by omega)]; rw [if_neg (by omega)]; rw [if_pos (by omega)]
    rw [e]; unfold cum ml; omega
  · have e : mOf y r = 7 := by unfold mOf; rw [if_neg (by omega)]; rw [if_neg (by omega)]; rw [if_neg (by omega)]; rw [if_neg (by omega)]; rw [if_neg (by omega)]; rw [if_neg (by omega)]; rw [if_pos (by omega)]
    rw [e]; unfold cum ml; omega
  · have e : mOf y r = 8 := by unfold mOf; rw [if_neg (by omega)]; rw [if_neg (by omega)]; rw [if_neg (by omega)]; rw [if_neg (by omega)]; rw [if_neg (by omega)]; rw [if_neg (by omega)]; rw [if_neg (by omega)]; rw [if_pos (by omega)]
    rw [e]; unfold cum ml; omega
  · have e : mOf y r = 9 := by unfold mOf; rw [if_neg (by omega)]; rw [if_neg (by omega)]; rw [if_neg (by omega)]; rw [if_neg (by omega)]; rw [if_neg (by omega)]; rw [if_neg (by omega)]; rw [if_neg (by omega)]; rw [if_neg (by omega)]; rw [if_pos (by omega)]
    rw [e]; unfold cum ml; omega
  · have e : mOf y r = 10 := by unfold mOf; rw [if_neg (by omega)]; rw [if_neg (by omega)]; rw [if_neg (by omega)]; rw [if_neg (by omega)]; rw [if_neg (by omega)]; rw [if_neg (by omega)]; rw [if_neg (by omega)]; rw [if_neg (by omega)]; rw [if_neg (by omega)]; rw [if_pos (by omega)]
    rw [e]; unfold cum ml; omega
  · have e : mOf y r = 11 := by unfold mOf; rw [if_neg (by omega)]; rw [if_neg (by omega)]; rw [if_neg (by omega)]; rw [if_neg (by omega)]; rw [if_neg (by omega)]; rw [if_neg (by omega)]; rw [if_neg (by omega)]; rw [if_neg (by omega)]; rw [if_neg (by omega)]; rw [if_neg (by omega)]; rw [if_pos (by omega)]
    rw [e]; unfold cum ml; omega
  · have e : mOf y r = 12 := by unfold mOf; rw [if_neg (by omega)]; rw [if_neg (by omega)]; rw [if_neg (by omega)]; rw [if_neg (by omega)]; rw [if_neg (by omega)]; rw [if_neg (by omega)]; rw [if_neg (by omega)]; rw [if_neg (by omega)]; rw [if_neg (by omega)]; rw [if_neg (by omega)]; rw [if_neg (by omega)]
    rw [e]; unfold cum ml; omega
theorem m_unique (y m n r : Int) (a : 1 ≤ m) (b : m ≤ 12) (c : 1 ≤ n) (d : n ≤ 12) (e : cum y m ≤ r) (f : r < cum y m + ml y m) (g : cum y n ≤ r) (h : r < cum y n + ml y n) : m = n := by
  have s1 := cum_succ y m a b
  have s2 := cum_succ y n c d
  rcases Int.lt_trichotomy m n with q | q | q
  · have := cum_mono y (m + 1) n (by omega); omega
  · exact q
  · have := cum_mono y (n + 1) m (by omega); omega
end Cal
end Go.Proofs.YtbpdbggojgijiaaGreatDoor

/- Contracts of package days: what each function returns, the world standing as it was, where the table of the months' days lies as it was laid. -/
namespace Go.Proofs.YtbpdbggojgijiaaGreatDoor
open Go Go.RowKit
set_option linter.unusedVariables false

def tab (i : Nat) : Int := if i = 1 then 28 else if i = 3 ∨ i = 5 ∨ i = 8 ∨ i = 10 then 30 else 31
/-- The table of the months' days lies in block 0. -/
def Laid (w : World) : Prop := ∀ i : Nat, i < 12 → w.cell? ⟨4, i, none⟩ = some (.int .i64 (tab i))

theorem ret_bool {a b : Bool} (h : a = b) : Ending.returned (.bool a) = .returned (.bool b) := by rw [h]
theorem ret_int {k : IntKind} {a b : Int} (h : a = b) : Ending.returned (.int k a) = .returned (.int k b) := by rw [h]

theorem isYear_c (y : Int) (w : World) : Calls Tryz.prog 129 #[.int .i64 y] w fun e w' => e = .returned (.bool (Cal.yrB y)) ∧ w' = w := by
  by_cases h : 1970 ≤ y
  all_goals
    go_enter Tryz.func129, Tryz.ntmps129
    go_wp2
    go_ret
    exact ⟨ret_bool (by unfold Cal.yrB; rw [Bool.eq_iff_iff]; simp; omega), rfl⟩
theorem isMonth_c (m : Int) (w : World) : Calls Tryz.prog 130 #[.int .i64 m] w fun e w' => e = .returned (.bool (Cal.moB m)) ∧ w' = w := by
  by_cases h : 1 ≤ m
  all_goals
    go_enter Tryz.func130, Tryz.ntmps130
    go_wp2
    go_ret
    exact ⟨ret_bool (by unfold Cal.moB; rw [Bool.eq_iff_iff]; simp; omega), rfl⟩
theorem isDay_c (m : Int) (w : World) : Calls Tryz.prog 133 #[.int .i64 m] w fun e w' => e = .returned (.bool (Cal.dayB m)) ∧ w' = w := by
  by_cases h : 0 ≤ m
  all_goals
    go_enter Tryz.func133, Tryz.ntmps133
    go_wp2
    go_ret
    exact ⟨ret_bool (by unfold Cal.dayB; rw [Bool.eq_iff_iff]; simp; omega), rfl⟩
theorem isLeap_c (y : Int) (w : World) (h : 0 ≤ y) : Calls Tryz.prog 143 #[.int .i64 y] w fun e w' => e = .returned (.bool (Cal.lpB y)) ∧ w' = w := by
  go_enter Tryz.func143, Tryz.ntmps143
  go_wp2
  go_ret
  exact ⟨ret_bool (by unfold Cal.lpB; rw [Bool.eq_iff_iff]; simp), rfl⟩

theorem months (m : Int) (h : 1 ≤ m) (k : m ≤ 12) : m = 1 ∨ m = 2 ∨ m = 3 ∨ m = 4 ∨ m = 5 ∨ m = 6 ∨ m = 7 ∨ m = 8 ∨ m = 9 ∨ m = 10 ∨ m = 11 ∨ m = 12 := by omega
theorem monthLength_two (y : Int) (w : World) (hL : Laid w) (hy : 0 ≤ y) :
    Calls Tryz.prog 131 #[.int .i64 y, .int .i64 2] w fun e w' => e = .returned (.int .i64 (Cal.ml y 2)) ∧ w' = w := by
  have hc : w.cell? ⟨4, 1, none⟩ = some (.int .i64 28) := hL 1 (by omega)
  clear hL
  cases hb : Cal.lpB y
  · have hv : Cal.ml y 2 = 28 := by unfold Cal.lpB at hb; unfold Cal.ml Cal.lp; simp at hb; omega
    rw [hv]; clear hv
    go_enter Tryz.func131, Tryz.ntmps131
    go_wp2_with (go_at_call 143; refine (isLeap_c _ _ hy).mono ?_; rintro e w' ⟨rfl, rfl⟩)
    go_ret
    exact ⟨rfl, rfl⟩
  · have hv : Cal.ml y 2 = 29 := by unfold Cal.lpB at hb; unfold Cal.ml Cal.lp; simp at hb; omega
    rw [hv]; clear hv
    go_enter Tryz.func131, Tryz.ntmps131
    go_wp2_with (go_at_call 143; refine (isLeap_c _ _ hy).mono ?_; rintro e w' ⟨rfl, rfl⟩)
    go_ret
    exact ⟨rfl, rfl⟩
theorem monthLength_c (y m : Int) (w : World) (hL : Laid w) (hy : 0 ≤ y) (h1 : 1 ≤ m) (h2 : m ≤ 12) :
    Calls Tryz.prog 131 #[.int .i64 y, .int .i64 m] w fun e w' => e = .returned (.int .i64 (Cal.ml y m)) ∧ w' = w := by
  by_cases h : m = 2
  · subst h; exact monthLength_two y w hL hy
  · have hc : w.cell? ⟨4, m.toNat - 1, none⟩ = some (.int .i64 (Cal.ml y m)) := by
      rw [hL _ (by omega)]
      congr 2
      unfold tab Cal.ml
      omega
    clear hL
    have hne : (m == 2) = false := beq_eq_false_iff_ne.2 h
    go_enter Tryz.func131, Tryz.ntmps131
    go_wp2
    go_ret
    exact ⟨rfl, rfl⟩
theorem daysAhead_c (y : Int) (w : World) (h : 1970 ≤ y) (k : y ≤ 2030) :
    Calls Tryz.prog 132 #[.int .i64 y] w fun e w' => e = .returned (.int .i64 (Cal.ahead y)) ∧ w' = w := by
  go_enter Tryz.func132, Tryz.ntmps132
  go_wp2
  go_ret
  exact ⟨ret_int (by unfold Cal.ahead; omega), rfl⟩

/-- Leap: the answer, and the error. -/
def leapR (y : Int) : Bool := Cal.yrB y && Cal.lpB y
def leapE (y : Int) : Int := if Cal.yrB y then 0 else 3
def weekR (d : Int) : Int := if Cal.dayB d then (d + 4) % 7 else 0
def weekE (d : Int) : Int := if Cal.dayB d then 0 else 3
theorem Week_c (d : Int) (w : World) : Calls Tryz.prog 114 #[.int .i64 d] w fun e w' => e = .returned (.tuple #[.int .i64 (weekR d), .int .i64 (weekE d)]) ∧ w' = w := by
  cases h : Cal.dayB d
  · have e1 : weekR d = 0 := by simp [weekR, h]
    have e2 : weekE d = 3 := by simp [weekE, h]
    rw [e1, e2]; clear e1 e2
    go_enter Tryz.func114, Tryz.ntmps114
    go_wp2_with (go_at_call 133; refine (isDay_c _ _).mono ?_; rintro e w' ⟨rfl, rfl⟩)
    go_ret2
    exact ⟨rfl, rfl⟩
  · have e1 : weekR d = (d + 4) % 7 := by simp [weekR, h]
    have e2 : weekE d = 0 := by simp [weekE, h]
    have h1 : 0 ≤ d := by unfold Cal.dayB at h; simp at h; omega
    have h2 : d < 21915 := by unfold Cal.dayB at h; simp at h; omega
    rw [e1, e2]; clear e1 e2
    go_enter Tryz.func114, Tryz.ntmps114
    go_wp2_with (go_at_call 133; refine (isDay_c _ _).mono ?_; rintro e w' ⟨rfl, rfl⟩)
    go_ret2
    exact ⟨rfl, rfl⟩
end Go.Proofs.YtbpdbggojgijiaaGreatDoor

/- Contracts of package days: Days and Date, and of the statements' own daysBegun. -/
namespace Go.Proofs.YtbpdbggojgijiaaGreatDoor
open Go Go.RowKit
set_option linter.unusedVariables false

theorem yr_of {y : Int} (h : Cal.yrB y = true) : 1970 ≤ y ∧ y ≤ 2029 := by unfold Cal.yrB at h; simpa using h
theorem yr_not {y : Int} (h : Cal.yrB y = false) : ¬ (1970 ≤ y ∧ y ≤ 2029) := by unfold Cal.yrB at h; simpa using h
theorem mo_of {y : Int} (h : Cal.moB y = true) : 1 ≤ y ∧ y ≤ 12 := by unfold Cal.moB at h; simpa using h
theorem mo_not {y : Int} (h : Cal.moB y = false) : ¬ (1 ≤ y ∧ y ≤ 12) := by unfold Cal.moB at h; simpa using h
theorem day_of {y : Int} (h : Cal.dayB y = true) : 0 ≤ y ∧ y < 21915 := by unfold Cal.dayB at h; simpa using h
theorem day_mk {y : Int} (h : 0 ≤ y ∧ y < 21915) : Cal.dayB y = true := by unfold Cal.dayB; simpa using h
theorem ok_not {y m d : Int} (h : ¬ (1970 ≤ y ∧ y ≤ 2029 ∧ 1 ≤ m ∧ m ≤ 12 ∧ 1 ≤ d ∧ d ≤ Cal.ml y m)) : Cal.okB y m d = false := by unfold Cal.okB; simpa using h
theorem ok_mk {y m d : Int} (h : (1970 ≤ y ∧ y ≤ 2029 ∧ 1 ≤ m ∧ m ≤ 12 ∧ 1 ≤ d ∧ d ≤ Cal.ml y m)) : Cal.okB y m d = true := by unfold Cal.okB; simpa using h
theorem ok_of {y m d : Int} (h : Cal.okB y m d = true) : (1970 ≤ y ∧ y ≤ 2029 ∧ 1 ≤ m ∧ m ≤ 12 ∧ 1 ≤ d ∧ d ≤ Cal.ml y m) := by unfold Cal.okB at h; simpa using h

def daysR (y m d : Int) : Int := if Cal.okB y m d then Cal.num y m d else 0
def daysE (y m d : Int) : Int := if Cal.okB y m d then 0 else 3

/-- The loop of Days sums up the months. -/
theorem Days_yes (y m d : Int) (w : World) (hL : Laid w) (hy1 : 1970 ≤ y) (hy2 : y ≤ 2029) (hm1 : 1 ≤ m) (hm2 : m ≤ 12) (hd1 : 1 ≤ d) (hd2 : d ≤ Cal.ml y m) :
    Calls Tryz.prog 112 #[.int .i64 y, .int .i64 m, .int .i64 d] w fun e w' => e = .returned (.tuple #[.int .i64 (Cal.num y m d), .int .i64 0]) ∧ w' = w := by
  have hyr : Cal.yrB y = true := by unfold Cal.yrB; simp; omega
  have hmo : Cal.moB m = true := by unfold Cal.moB; simp; omega
  have hb := Cal.ml_bd y m
  have ha := Cal.ahead_bd y hy1 (by omega)
  have HL : Hid (Laid w) := hL
  clear hL
  go_enter Tryz.func112, Tryz.ntmps112
  go_wp2_with (first
    | (go_at_call 129; refine (isYear_c _ _).mono ?_; rintro e w' ⟨rfl, rfl⟩)
    | (go_at_call 130; refine (isMonth_c _ _).mono ?_; rintro e w' ⟨rfl, rfl⟩)
    | (go_at_call 131; refine (monthLength_c _ _ _ HL.out (by omega) (by omega) (by omega)).mono ?_; rintro e w' ⟨rfl, rfl⟩)
    | (go_at_call 132; refine (daysAhead_c _ _ (by omega) (by omega)).mono ?_; rintro e w' ⟨rfl, rfl⟩))
  go_loop [8, 9] (fun n k => ∃ j : Int, 1 ≤ j ∧ j ≤ m ∧ k = .int .i64 j ∧ n = .int .i64 (Cal.ahead y + d - 1 + Cal.cum y j)) (fun _ k => (m - intOf k).toNat)
  case atStart => exact ⟨1, by omega, hm1, rfl, by rw [Cal.cum_one]; go_num⟩
  case round =>
    obtain ⟨j, hj1, hj2, rfl, rfl⟩ := hrel
    have cb := Cal.cum_bd y j
    have lb := Cal.ml_bd y j
    by_cases hlt : j < m
    · have HS : Hid (Cal.cum y (j + 1) = Cal.cum y j + Cal.ml y j) := Cal.cum_succ y j (by omega) (by omega)
      go_wp2_with (go_at_call 131; refine (monthLength_c _ _ _ HL.out (by omega) (by omega) (by omega)).mono ?_; rintro e w' ⟨rfl, rfl⟩)
      go_round
      case rel => exact ⟨j + 1, by omega, by omega, rfl, by rw [HS.out]; go_num⟩
      case measure => simp [intOf]; omega
    · have hjm : j = m := by omega
      subst hjm
      go_wp2
      go_ret2
      exact ⟨rfl, rfl⟩

theorem Days_c (y m d : Int) (w : World) (hL : Laid w) :
    Calls Tryz.prog 112 #[.int .i64 y, .int .i64 m, .int .i64 d] w fun e w' => e = .returned (.tuple #[.int .i64 (daysR y m d), .int .i64 (daysE y m d)]) ∧ w' = w := by
  cases hok : Cal.okB y m d
  · have e1 : daysR y m d = 0 := by simp [daysR, hok]
    have e2 : daysE y m d = 3 := by simp [daysE, hok]
    rw [e1, e2]; clear e1 e2
    unfold Cal.okB at hok
    have hok' := of_decide_eq_false hok
    clear hok
    cases hyr : Cal.yrB y
    · clear hok' hL
      go_enter Tryz.func112, Tryz.ntmps112
      go_wp2_with (go_at_call 129; refine (isYear_c _ _).mono ?_; rintro e w' ⟨rfl, rfl⟩)
      go_ret2
      exact ⟨rfl, rfl⟩
    · have hy := yr_of hyr
      cases hmo : Cal.moB m
      · clear hok' hL
        go_enter Tryz.func112, Tryz.ntmps112
        go_wp2_with (first
          | (go_at_call 129; refine (isYear_c _ _).mono ?_; rintro e w' ⟨rfl, rfl⟩)
          | (go_at_call 130; refine (isMonth_c _ _).mono ?_; rintro e w' ⟨rfl, rfl⟩))
        go_ret2
        exact ⟨rfl, rfl⟩
      · have hm := mo_of hmo
        by_cases hd : d < 1
        · clear hok' hL
          go_enter Tryz.func112, Tryz.ntmps112
          go_wp2_with (first
            | (go_at_call 129; refine (isYear_c _ _).mono ?_; rintro e w' ⟨rfl, rfl⟩)
            | (go_at_call 130; refine (isMonth_c _ _).mono ?_; rintro e w' ⟨rfl, rfl⟩))
          go_ret2
          exact ⟨rfl, rfl⟩
        · have hg : Cal.ml y m < d := by omega
          have HL : Hid (Laid w) := hL
          clear hL hok'
          go_enter Tryz.func112, Tryz.ntmps112
          go_wp2_with (first
            | (go_at_call 129; refine (isYear_c _ _).mono ?_; rintro e w' ⟨rfl, rfl⟩)
            | (go_at_call 130; refine (isMonth_c _ _).mono ?_; rintro e w' ⟨rfl, rfl⟩)
            | (go_at_call 131; refine (monthLength_c _ _ _ HL.out (by omega) (by omega) (by omega)).mono ?_; rintro e w' ⟨rfl, rfl⟩))
          go_ret2
          exact ⟨rfl, rfl⟩
  · have e1 : daysR y m d = Cal.num y m d := by simp [daysR, hok]
    have e2 : daysE y m d = 0 := by simp [daysE, hok]
    rw [e1, e2]
    obtain ⟨a, b, c, d, e, f⟩ := ok_of hok
    exact Days_yes _ _ _ w hL a b c d e f

def dateY (d : Int) : Int := if Cal.dayB d then Cal.yOf d else 0
def dateM (d : Int) : Int := if Cal.dayB d then Cal.monOf d else 0
def dateD (d : Int) : Int := if Cal.dayB d then Cal.domOf d else 0
end Go.Proofs.YtbpdbggojgijiaaGreatDoor

/- Contracts of package days, closed: Date whatever it is handed, and the statements' own daysBegun. -/
namespace Go.Proofs.YtbpdbggojgijiaaGreatDoor
open Go Go.RowKit
set_option linter.unusedVariables false

end Go.Proofs.YtbpdbggojgijiaaGreatDoor

/- Plain facts on what the calls of package days answer: Date of Days, Days of Date, the day behind, the year behind. -/
namespace Go.Proofs.YtbpdbggojgijiaaGreatDoor
open Go Go.RowKit
set_option linter.unusedVariables false

theorem daysR_bd (y m d : Int) : 0 ≤ daysR y m d ∧ daysR y m d < 21915 := by
  unfold daysR
  cases h : Cal.okB y m d
  · simp
  · obtain ⟨a, b, c, e, f, g⟩ := ok_of h
    have h1 := Cal.ahead_bd y a (by omega)
    have h2 := Cal.ahead_bd (y + 1) (by omega) (by omega)
    have h3 := Cal.ahead_succ y
    have h4 := Cal.cum_bd y m
    have h5 := Cal.cum_succ y m c e
    have h6 := Cal.cum_mono y (m + 1) 13 (by omega)
    have h7 : Cal.cum y 13 = 365 + Cal.lp y := by unfold Cal.cum; omega
    simp only [if_true, Cal.num]
    omega
theorem num_spec (y m d : Int) (h : Cal.okB y m d = true) : Cal.ahead y ≤ Cal.num y m d ∧ Cal.num y m d < Cal.ahead (y + 1) ∧ Cal.cum y m ≤ Cal.num y m d - Cal.ahead y ∧ Cal.num y m d - Cal.ahead y < Cal.cum y m + Cal.ml y m := by
  obtain ⟨a, b, c, e, f, g⟩ := ok_of h
  have h3 := Cal.ahead_succ y
  have h4 := Cal.cum_bd y m
  have h5 := Cal.cum_succ y m c e
  have h6 := Cal.cum_mono y (m + 1) 13 (by omega)
  have h7 : Cal.cum y 13 = 365 + Cal.lp y := by unfold Cal.cum; omega
  unfold Cal.num
  omega
/-- what Date tells is a date, and the day it was asked of -/
theorem date_spec (day : Int) (h1 : 0 ≤ day) (h2 : day < 21915) : Cal.okB (Cal.yOf day) (Cal.monOf day) (Cal.domOf day) = true ∧ Cal.num (Cal.yOf day) (Cal.monOf day) (Cal.domOf day) = day ∧ Cal.ahead (Cal.yOf day) ≤ day ∧ day < Cal.ahead (Cal.yOf day + 1)
    ∧ Cal.cum (Cal.yOf day) (Cal.monOf day) ≤ day - Cal.ahead (Cal.yOf day) ∧ day - Cal.ahead (Cal.yOf day) < Cal.cum (Cal.yOf day) (Cal.monOf day) + Cal.ml (Cal.yOf day) (Cal.monOf day) := by
  obtain ⟨y1, y2, y3, y4⟩ := Cal.yOf_spec day h1 h2
  have h3 := Cal.ahead_succ (Cal.yOf day)
  obtain ⟨m1, m2, m3, m4⟩ := Cal.mOf_spec (Cal.yOf day) (day - Cal.ahead (Cal.yOf day)) (by omega) (by omega)
  refine ⟨ok_mk ⟨y1, y2, m1, m2, ?_, ?_⟩, ?_, y3, y4, m3, m4⟩
  · unfold Cal.domOf Cal.monOf; omega
  · unfold Cal.domOf Cal.monOf; omega
  · unfold Cal.num Cal.domOf; omega
theorem back_date (y m d : Int) (h : Cal.okB y m d = true) : Cal.yOf (Cal.num y m d) = y ∧ Cal.monOf (Cal.num y m d) = m ∧ Cal.domOf (Cal.num y m d) = d := by
  have hb := daysR_bd y m d
  simp only [daysR, h, if_true] at hb
  obtain ⟨n1, n2, n3, n4⟩ := num_spec y m d h
  obtain ⟨o, e, s1, s2, s3, s4⟩ := date_spec (Cal.num y m d) hb.1 hb.2
  obtain ⟨a, b, c, e', f, g⟩ := ok_of h
  obtain ⟨a2, b2, c2, e2, f2, g2⟩ := ok_of o
  have hy : Cal.yOf (Cal.num y m d) = y := Cal.y_unique _ _ _ s1 s2 n1 n2
  have hm : Cal.monOf (Cal.num y m d) = m := by
    rw [hy] at s3 s4
    exact Cal.m_unique y _ _ (Cal.num y m d - Cal.ahead y) c2 e2 c e' s3 s4 n3 n4
  refine ⟨hy, hm, ?_⟩
  unfold Cal.domOf
  rw [hm, hy]
  unfold Cal.num
  omega
theorem lex_next (y z m n d e : Int) (h : Cal.okB y m d = true) (k : Cal.okB z n e = true) (q : Cal.num z n e = Cal.num y m d + 1) :
    y < z ∨ (z = y ∧ m < n) ∨ (z = y ∧ n = m ∧ e = d + 1) := by
  obtain ⟨n1, n2, n3, n4⟩ := num_spec y m d h
  obtain ⟨o1, o2, o3, o4⟩ := num_spec z n e k
  obtain ⟨a, b, c, e', f, g⟩ := ok_of h
  obtain ⟨a2, b2, c2, e2, f2, g2⟩ := ok_of k
  have hyz : y ≤ z := by
    rcases Int.lt_or_le z y with hlt | hge
    · have : Cal.ahead (z + 1) ≤ Cal.ahead y := by unfold Cal.ahead; omega
      omega
    · exact hge
  rcases Int.lt_or_eq_of_le hyz with hlt | heq
  · exact .inl hlt
  · subst heq
    rcases Int.lt_trichotomy m n with hlt | heq | hgt
    · exact .inr (.inl ⟨rfl, hlt⟩)
    · subst heq
      unfold Cal.num at q
      exact .inr (.inr ⟨rfl, rfl, by omega⟩)
    · have h5 := Cal.cum_succ y n c2 e2
      have h6 := Cal.cum_mono y (n + 1) m (by omega)
      omega
end Go.Proofs.YtbpdbggojgijiaaGreatDoor

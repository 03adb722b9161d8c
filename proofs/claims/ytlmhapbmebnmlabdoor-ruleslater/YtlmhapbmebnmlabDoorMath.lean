/- Plain facts on days, months and years: no program is named here. -/
import Derived.KernelRfl
namespace Go.Proofs.YtlmhapbmebnmlabDoor
namespace Cal
def lp (y : Int) : Int := if y % 4 = 0 then 1 else 0
def ml (y m : Int) : Int := if m = 2 then 28 + lp y else if m = 4 ∨ m = 6 ∨ m = 9 ∨ m = 11 then 30 else 31
/-- how many days lie ahead of month m in year y -/
def cum (y m : Int) : Int :=
  if m ≤ 1 then 0 else if m = 2 then 31 else if m = 3 then 59 + lp y else if m = 4 then 90 + lp y else if m = 5 then 120 + lp y
  else if m = 6 then 151 + lp y else if m = 7 then 181 + lp y else if m = 8 then 212 + lp y else if m = 9 then 243 + lp y
  else if m = 10 then 273 + lp y else if m = 11 then 304 + lp y else if m = 12 then 334 + lp y else 365 + lp y
/-- how many days lie ahead of year y -/
def ahead (y : Int) : Int := (y - 1970) * 365 + ((y - 1) / 4 - 492)
def num (y m d : Int) : Int := ahead y + d - 1 + cum y m
def yrB (y : Int) : Bool := decide (1970 ≤ y ∧ y ≤ 2029)
def moB (m : Int) : Bool := decide (1 ≤ m ∧ m ≤ 12)
def dayB (day : Int) : Bool := decide (0 ≤ day ∧ day < 21915)
def lpB (y : Int) : Bool := decide (y % 4 = 0)
/-- is it a date? -/
def okB (y m d : Int) : Bool := decide (1970 ≤ y ∧ y ≤ 2029 ∧ 1 ≤ m ∧ m ≤ 12 ∧ 1 ≤ d ∧ d ≤ ml y m)
def yOf (day : Int) : Int := if day < ahead (1970 + day / 365) then 1970 + day / 365 - 1 else 1970 + day / 365
def mOf (y r : Int) : Int :=
  if r < 31 then 1 else if r < 59 + lp y then 2 else if r < 90 + lp y then 3 else if r < 120 + lp y then 4 else if r < 151 + lp y then 5
  else if r < 181 + lp y then 6 else if r < 212 + lp y then 7 else if r < 243 + lp y then 8 else if r < 273 + lp y then 9
  else if r < 304 + lp y then 10 else if r < 334 + lp y then 11 else 12
def monOf (day : Int) : Int := mOf (yOf day) (day - ahead (yOf day))
def domOf (day : Int) : Int := day - ahead (yOf day) - cum (yOf day) (monOf day) + 1

theorem lp01 (y : Int) : 0 ≤ lp y ∧ lp y ≤ 1 := by unfold lp; omega
theorem ml_bd (y m : Int) : 28 ≤ ml y m ∧ ml y m ≤ 31 := by unfold ml lp; omega
theorem cum_bd (y m : Int) : 0 ≤ cum y m ∧ cum y m ≤ 366 := by unfold cum lp; omega
theorem cum_one (y : Int) : cum y 1 = 0 := by unfold cum; omega
theorem cum_succ (y m : Int) (h : 1 ≤ m) (k : m ≤ 12) : cum y (m + 1) = cum y m + ml y m := by unfold cum ml lp; omega
theorem cum_mono (y m n : Int) (h : m ≤ n) : cum y m ≤ cum y n := by unfold cum lp; omega
theorem ahead_bd (y : Int) (h : 1970 ≤ y) (k : y ≤ 2030) : 0 ≤ ahead y ∧ ahead y ≤ 21915 := by unfold ahead; omega
theorem ahead_succ (y : Int) : ahead (y + 1) = ahead y + 365 + lp y := by unfold ahead lp; omega
theorem yOf_spec (day : Int) (h : 0 ≤ day) (k : day < 21915) : 1970 ≤ yOf day ∧ yOf day ≤ 2029 ∧ ahead (yOf day) ≤ day ∧ day < ahead (yOf day + 1) := by
  unfold yOf ahead; omega
theorem y_unique (y z day : Int) (a : ahead y ≤ day) (b : day < ahead (y + 1)) (c : ahead z ≤ day) (d : day < ahead (z + 1)) : y = z := by
  unfold ahead at *; omega
theorem mOf_spec (y r : Int) (h : 0 ≤ r) (k : r < 365 + lp y) : 1 ≤ mOf y r ∧ mOf y r ≤ 12 ∧ cum y (mOf y r) ≤ r ∧ r < cum y (mOf y r) + ml y (mOf y r) := by
  have hl := lp01 y
  have key : (0 ≤ r ∧ r < 31) ∨ (31 ≤ r ∧ r < 59 + lp y) ∨ (59 + lp y ≤ r ∧ r < 90 + lp y) ∨ (90 + lp y ≤ r ∧ r < 120 + lp y) ∨ (120 + lp y ≤ r ∧ r < 151 + lp y) ∨ (151 + lp y ≤ r ∧ r < 181 + lp y) ∨ (181 + lp y ≤ r ∧ r < 212 + lp y) ∨ (212 + lp y ≤ r ∧ r < 243 + lp y) ∨ (243 + lp y ≤ r ∧ r < 273 + lp y) ∨ (273 + lp y ≤ r ∧ r < 304 + lp y) ∨ (304 + lp y ≤ r ∧ r < 334 + lp y) ∨ (334 + lp y ≤ r ∧ r < 365 + lp y) := by omega
  rcases key with ⟨h1, h2⟩ | ⟨h1, h2⟩ | ⟨h1, h2⟩ | ⟨h1, h2⟩ | ⟨h1, h2⟩ | ⟨h1, h2⟩ | ⟨h1, h2⟩ | ⟨h1, h2⟩ | ⟨h1, h2⟩ | ⟨h1, h2⟩ | ⟨h1, h2⟩ | ⟨h1, h2⟩
  · have e : mOf y r = 1 := by unfold mOf; rw [if_pos (by omega)]
    rw [e]; unfold cum ml; omega
  · have e : mOf y r = 2 := by unfold mOf; rw [if_neg (by omega)]; rw [if_pos (by omega)]
    rw [e]; unfold cum ml; omega
  · have e : mOf y r = 3 := by unfold mOf; rw [if_neg (by omega)]; rw [if_neg (by omega)]; rw [if_pos (by omega)]
    rw [e]; unfold cum ml; omega
  · have e : mOf y r = 4 := by unfold mOf; rw [if_neg (by omega)]; rw [if_neg (by omega)]; rw [if_neg (by omega)]; rw [if_pos (by omega)]
    rw [e]; unfold cum ml; omega
  · have e : mOf y r = 5 := by unfold mOf; rw [if_neg (by omega)]; rw [if_neg (by omega)]; rw [if_neg (by omega)]; rw [if_neg (by omega)]; rw [if_pos (by omega)]
    rw [e]; unfold cum ml; omega
  · have e : mOf y r = 6 := by unfold mOf; rw [if_neg (by omega)]; rw [if_neg (by omega)]; rw [if_neg (by omega)]; rw [if_neg (by omega)]; rw [if_neg (by omega)]; rw [if_pos (by omega)]
    rw [e]; unfold cum ml; omega
  · have e : mOf y r = 7 := by unfold mOf; rw [if_neg (by omega)]; rw [if_neg (by omega)]; rw [if_neg (by omega)]; rw [if_neg (by omega)]; rw [if_neg (by omega)]; rw [if_neg (by omega)]; rw [if_pos (by omega)]
    rw [e]; unfold cum ml; omega
  · have e : mOf y r = 8 := by unfold mOf; rw [if_neg (by omega)]; rw [if_neg (by omega)]; rw [if_neg (by omega)]; rw [if_neg (by omega)]; rw [if_neg (by omega)]; rw [if_neg (by omega)]; rw [if_neg (by omega)]; rw [if_pos (by omega)]
    rw [e]; unfold cum ml; omega
  · have e : mOf y r = 9 := by unfold mOf; rw [if_neg (by omega)]; rw [if_neg (by omega)]; rw [if_neg (by omega)]; rw [if_neg (by omega)]; rw [if_neg (by omega)]; rw [if_neg (by omega)]; rw [if_neg (by omega)]; rw [if_neg (by omega)]; rw [if_pos (by omega)]
    rw [e]; unfold cum ml; omega
  · have e : mOf y r = 10 := by unfold mOf; rw [if_neg (by omega)]; rw [if_neg (by omega)]; rw [if_neg (by omega)]; rw [if_neg (by omega)]; rw [if_neg (by omega)]; rw [if_neg (by omega)]; rw [if_neg (by omega)]; rw [if_neg (by omega)]; rw [if_neg (by omega)]; rw [if_pos (by omega)]
    rw [e]; unfold cum ml; omega
  · have e : mOf y r = 11 := by unfold mOf; rw [if_neg (by omega)]; rw [if_neg (by omega)]; rw [if_neg (by omega)]; rw [if_neg (by omega)]; rw [if_neg (by omega)]; rw [if_neg (by omega)]; rw [if_neg (by omega)]; rw [if_neg (by omega)]; rw [if_neg (by omega)]; rw [if_neg (by omega)]; rw [if_pos (by omega)]
    rw [e]; unfold cum ml; omega
  · have e : mOf y r = 12 := by unfold mOf; rw [if_neg (by omega)]; rw [if_neg (by omega)]; rw [if_neg (by omega)]; rw [if_neg (by omega)]; rw [if_neg (by omega)]; rw [if_neg (by omega)]; rw [if_neg (by omega)]; rw [if_neg (by omega)]; rw [if_neg (by omega)]; rw [if_neg (by omega)]; rw [if_neg (by omega)]
    rw [e]; unfold cum ml; omega
theorem m_unique (y m n r : Int) (a : 1 ≤ m) (b : m ≤ 12) (c : 1 ≤ n) (d : n ≤ 12) (e : cum y m ≤ r) (f : r < cum y m + ml y m) (g : cum y n ≤ r) (h : r < cum y n + ml y n) : m = n := by
  have s1 := cum_succ y m a b
  have s2 := cum_succ y n c d
  rcases Int.lt_trichotomy m n with q | q | q
  · have := cum_mono y (m + 1) n (by omega); omega
  · exact q
  · have := cum_mono y (n + 1) m (by omega); omega
end Cal
end Go.Proofs.YtlmhapbmebnmlabDoor

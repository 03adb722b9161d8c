/- Contracts of the document's own answers (package gnomonref) on days. -/
import Derived.Test.YtbpdbggojgijiaaGreatDoorMathAll
import Derived.Deep.QuietTactic
import Derived.BigQuiet
import Derived.WalkSmall
import Derived.Deep.RegionWith
namespace Go.Proofs.YtbpdbggojgijiaaGreatDoor
open Go Go.RowKit
set_option linter.unusedVariables false

def inB (n a b : Int) : Bool := decide (a ≤ n ∧ n ≤ b)
theorem within_c (n a b : Int) (w : World) : Calls Tryz.prog 17 #[.int .i64 n, .int .i64 a, .int .i64 b] w fun e w' => e = .returned (.bool (inB n a b)) ∧ w' = w := by
  by_cases h : a ≤ n
  all_goals
    go_enter Tryz.func17, Tryz.ntmps17
    go_wp2
    go_ret
    exact ⟨ret_bool (by unfold inB; rw [Bool.eq_iff_iff]; simp; omega), rfl⟩
theorem IsYear_c (y : Int) (w : World) : Calls Tryz.prog 38 #[.int .i64 y] w fun e w' => e = .returned (.bool (Cal.yrB y)) ∧ w' = w := by
  go_enter Tryz.func38, Tryz.ntmps38
  go_wp2_with (go_at_call 17; refine (within_c _ _ _ _).mono ?_; rintro e w' ⟨rfl, rfl⟩)
  go_ret
  exact ⟨rfl, rfl⟩
theorem RisMonth_c (y : Int) (w : World) : Calls Tryz.prog 39 #[.int .i64 y] w fun e w' => e = .returned (.bool (Cal.moB y)) ∧ w' = w := by
  go_enter Tryz.func39, Tryz.ntmps39
  go_wp2_with (go_at_call 17; refine (within_c _ _ _ _).mono ?_; rintro e w' ⟨rfl, rfl⟩)
  go_ret
  exact ⟨rfl, rfl⟩
theorem yearDays_c (y : Int) (w : World) (h : 0 ≤ y) : Calls Tryz.prog 85 #[.int .i64 y] w fun e w' => e = .returned (.int .i64 (365 + Cal.lp y)) ∧ w' = w := by
  by_cases hb : y % 4 = 0
  · have h1 : (y % 4 == 0) = true := beq_iff_eq.2 hb
    go_enter Tryz.func85, Tryz.ntmps85
    go_wp2
    go_ret
    exact ⟨ret_int (by unfold Cal.lp; omega), rfl⟩
  · have h1 : (y % 4 == 0) = false := beq_eq_false_iff_ne.2 hb
    go_enter Tryz.func85, Tryz.ntmps85
    go_wp2
    go_ret
    exact ⟨ret_int (by unfold Cal.lp; omega), rfl⟩
theorem WeekOf_c (d : Int) (w : World) (h : 0 ≤ d) (k : d < 21915) : Calls Tryz.prog 69 #[.int .i64 d] w fun e w' => e = .returned (.int .i64 ((d + 4) % 7)) ∧ w' = w := by
  go_enter Tryz.func69, Tryz.ntmps69
  go_wp2
  go_ret
  exact ⟨rfl, rfl⟩
set_option maxHeartbeats 2000000 in
theorem monthDays_c (y m : Int) (w : World) (hy : 0 ≤ y) (h1 : 1 ≤ m) (h2 : m ≤ 12) :
    Calls Tryz.prog 67 #[.int .i64 y, .int .i64 m] w fun e w' => e = .returned (.int .i64 (Cal.ml y m)) ∧ Below w.heap.size w w' := by
  have key := months m h1 h2
  by_cases hb : y % 4 = 0
  · have hb1 : (y % 4 == 0) = true := beq_iff_eq.2 hb
    rcases key with rfl | rfl | rfl | rfl | rfl | rfl | rfl | rfl | rfl | rfl | rfl | rfl
    all_goals
      go_enter Tryz.func67, Tryz.ntmps67
      go_wp2
      go_ret
      exact ⟨ret_int (by unfold Cal.ml Cal.lp; omega), (Below.refl _ _).alloc (Nat.le_refl _) _⟩
  · have hb1 : (y % 4 == 0) = false := beq_eq_false_iff_ne.2 hb
    rcases key with rfl | rfl | rfl | rfl | rfl | rfl | rfl | rfl | rfl | rfl | rfl | rfl
    all_goals
      go_enter Tryz.func67, Tryz.ntmps67
      go_wp2
      go_ret
      exact ⟨ret_int (by unfold Cal.ml Cal.lp; omega), (Below.refl _ _).alloc (Nat.le_refl _) _⟩
end Go.Proofs.YtbpdbggojgijiaaGreatDoor

/- Contracts of the document's own answers (package gnomonref): DaysOf. -/
namespace Go.Proofs.YtbpdbggojgijiaaGreatDoor
open Go Go.RowKit
set_option linter.unusedVariables false

theorem bthen {w a b : World} (h : Below w.heap.size w a) (k : Below a.heap.size a b) : Below w.heap.size w b := h.trans (k.mono h.size)
theorem in_of {n a b : Int} (h : inB n a b = true) : a ≤ n ∧ n ≤ b := by unfold inB at h; simpa using h
theorem in_mk {n a b : Int} (h : a ≤ n ∧ n ≤ b) : inB n a b = true := by unfold inB; simpa using h
theorem in_not {n a b : Int} (h : ¬ (a ≤ n ∧ n ≤ b)) : inB n a b = false := by unfold inB; simpa using h

set_option maxHeartbeats 2000000 in
theorem DaysOf_yes (y m d : Int) (w : World) (hy1 : 1970 ≤ y) (hy2 : y ≤ 2029) (hm1 : 1 ≤ m) (hm2 : m ≤ 12) (hd1 : 1 ≤ d) (hd2 : d ≤ Cal.ml y m) :
    Calls Tryz.prog 68 #[.int .i64 y, .int .i64 m, .int .i64 d] w fun e w' => e = .returned (.tuple #[.int .i64 (Cal.num y m d), .int .i64 0]) ∧ Below w.heap.size w w' := by
  have hyr : Cal.yrB y = true := by unfold Cal.yrB; simp; omega
  have hmo : Cal.moB m = true := by unfold Cal.moB; simp; omega
  have hin : inB d 1 (Cal.ml y m) = true := in_mk ⟨hd1, hd2⟩
  have hb := Cal.ml_bd y m
  have ha := Cal.ahead_bd y hy1 (by omega)
  go_enter Tryz.func68, Tryz.ntmps68
  go_wp2_with (first
    | (go_at_call 38; refine (IsYear_c _ _).mono ?_; rintro e w ⟨rfl, rfl⟩)
    | (go_at_call 39; refine (RisMonth_c _ _).mono ?_; rintro e w ⟨rfl, rfl⟩)
    | (go_at_call 17; refine (within_c _ _ _ _).mono ?_; rintro e w1 ⟨rfl, rfl⟩)
    | (go_at_call 67; refine (monthDays_c _ _ _ (by omega) hm1 hm2).mono ?_; rintro e w1 ⟨rfl, hw1⟩))
  go_loop [8, 9] (fun n k => ∃ j : Int, 1970 ≤ j ∧ j ≤ y ∧ k = .int .i64 j ∧ n = .int .i64 (Cal.ahead j + d - 1)) (fun _ k => (y - intOf k).toNat)
  case atStart => exact ⟨1970, by omega, hy1, rfl, by unfold Cal.ahead; go_num⟩
  case round =>
    obtain ⟨j, hj1, hj2, rfl, rfl⟩ := hrel
    have ja := Cal.ahead_bd j hj1 (by omega)
    have jl := Cal.lp01 j
    by_cases hlt : j < y
    · have HS : Hid (Cal.ahead (j + 1) = Cal.ahead j + 365 + Cal.lp j) := Cal.ahead_succ j
      go_wp2_with (go_at_call 85; refine (yearDays_c _ _ (by omega)).mono ?_; rintro e w1 ⟨rfl, rfl⟩)
      go_round
      case rel => exact ⟨j + 1, by omega, by omega, rfl, by rw [HS.out]; go_num⟩
      case measure => simp [intOf]; omega
    · have hjy : j = y := by omega
      subst hjy
      go_wp2_with fail
      go_loopw [8, 10] (fun n k v => ∃ i : Int, 1 ≤ i ∧ i ≤ m ∧ k = .int .i64 i ∧ n = .int .i64 (Cal.ahead j + d - 1 + Cal.cum j i) ∧ Below w.heap.size w v) (fun _ k _ => (m - intOf k).toNat)
      case atStart => exact ⟨1, by omega, hm1, rfl, by rw [Cal.cum_one]; go_num, hw1⟩
      case round =>
        obtain ⟨i, hi1, hi2, rfl, rfl, hv⟩ := hrel
        have cb := Cal.cum_bd j i
        have lb := Cal.ml_bd j i
        by_cases hlt2 : i < m
        · have HS : Hid (Cal.cum j (i + 1) = Cal.cum j i + Cal.ml j i) := Cal.cum_succ j i (by omega) (by omega)
          go_wp2_with (go_at_call 67; refine (monthDays_c _ _ _ (by omega) (by omega) (by omega)).mono ?_; rintro e w2 ⟨rfl, hw2⟩)
          go_roundw
          case rel => exact ⟨i + 1, by omega, by omega, rfl, by rw [HS.out]; go_num, bthen hv hw2⟩
          case measure => simp [intOf]; omega
        · have him : i = m := by omega
          subst him
          go_wp2
          go_ret2
          exact ⟨rfl, hv⟩

theorem DaysOf_c (y m d : Int) (w : World) :
    Calls Tryz.prog 68 #[.int .i64 y, .int .i64 m, .int .i64 d] w fun e w' => e = .returned (.tuple #[.int .i64 (daysR y m d), .int .i64 (daysE y m d)]) ∧ Below w.heap.size w w' := by
  cases hok : Cal.okB y m d
  · have e1 : daysR y m d = 0 := by simp [daysR, hok]
    have e2 : daysE y m d = 3 := by simp [daysE, hok]
    rw [e1, e2]; clear e1 e2
    unfold Cal.okB at hok
    have hok' := of_decide_eq_false hok
    clear hok
    cases hyr : Cal.yrB y
    · clear hok'
      go_enter Tryz.func68, Tryz.ntmps68
      go_wp2_with (go_at_call 38; refine (IsYear_c _ _).mono ?_; rintro e w ⟨rfl, rfl⟩)
      go_ret2
      exact ⟨rfl, Below.refl _ _⟩
    · have hy := yr_of hyr
      cases hmo : Cal.moB m
      · clear hok'
        go_enter Tryz.func68, Tryz.ntmps68
        go_wp2_with (first
          | (go_at_call 38; refine (IsYear_c _ _).mono ?_; rintro e w ⟨rfl, rfl⟩)
          | (go_at_call 39; refine (RisMonth_c _ _).mono ?_; rintro e w ⟨rfl, rfl⟩))
        go_ret2
        exact ⟨rfl, Below.refl _ _⟩
      · have hm := mo_of hmo
        have hg : inB d 1 (Cal.ml y m) = false := in_not (by omega)
        clear hok'
        go_enter Tryz.func68, Tryz.ntmps68
        go_wp2_with (first
          | (go_at_call 38; refine (IsYear_c _ _).mono ?_; rintro e w ⟨rfl, rfl⟩)
          | (go_at_call 39; refine (RisMonth_c _ _).mono ?_; rintro e w ⟨rfl, rfl⟩)
          | (go_at_call 17; refine (within_c _ _ _ _).mono ?_; rintro e w1 ⟨rfl, rfl⟩)
          | (go_at_call 67; refine (monthDays_c _ _ _ (by omega) (by omega) (by omega)).mono ?_; rintro e w1 ⟨rfl, hw1⟩))
        go_ret2
        exact ⟨rfl, hw1⟩
  · have e1 : daysR y m d = Cal.num y m d := by simp [daysR, hok]
    have e2 : daysE y m d = 0 := by simp [daysE, hok]
    rw [e1, e2]
    obtain ⟨a, b, c, d, e, f⟩ := ok_of hok
    exact DaysOf_yes _ _ _ w a b c d e f

end Go.Proofs.YtbpdbggojgijiaaGreatDoor

/- Contracts of package pick: Check, and what it leans on. -/
namespace Go.Proofs.YtbpdbggojgijiaaGreatDoor
open Go Go.RowKit
set_option linter.unusedVariables false

theorem cell_lt {w : World} {b o : Nat} {v : Value} (h : w.cell? ⟨b, o, none⟩ = some v) : b < w.heap.size := by
  rcases Nat.lt_or_ge b w.heap.size with h1 | h1
  · exact h1
  · have h2 : w.heap[b]? = none := Array.getElem?_eq_none h1
    simp [World.cell?, h2] at h
theorem Laid.on {w w' : World} (h : Laid w) (k : Below w.heap.size w w') : Laid w' := by
  intro i hi
  rw [k.cell (p := ⟨4, i, none⟩) (cell_lt (h i hi))]
  exact h i hi
theorem bcell {W w1 : World} (hb : Below W.heap.size W w1) : (∀ b o, b < W.heap.size → w1.cell? ⟨b, o, none⟩ = W.cell? ⟨b, o, none⟩) ∧ (∀ b o, b < W.heap.size → w1.frozen? ⟨b, o, none⟩ = W.frozen? ⟨b, o, none⟩) :=
  ⟨fun b o h => hb.cell (p := ⟨b, o, none⟩) h, fun b o h => hb.frozen (p := ⟨b, o, none⟩) h⟩
theorem bel_box {w w' : World} {o : Obj} (h : Below (w.alloc o).heap.size (w.alloc o) w') : Below w.heap.size w w' :=
  ((Below.refl _ _).alloc (Nat.le_refl _) o).trans (h.mono (by simp))

/-- a day of a month, as a value -/
abbrev onV (k wk d : Int) : Value := .agg #[.int .i64 k, .int .i64 wk, .int .i64 d]
/-- what is wrong with it: 8, 3 or 0 -/
def chk (k wk d : Int) : Int :=
  if k < 1 ∨ 3 < k then 8
  else if wk < 0 ∨ 6 < wk ∨ (k = 1 ∧ wk ≠ 0) ∨ (k = 2 ∧ d ≠ 0) ∨ (k ≠ 2 ∧ (d < 1 ∨ 31 < d)) then 3 else 0

theorem pisDay_c (d : Int) (w : World) : Calls Tryz.prog 109 #[.int .i64 d] w fun e w' => e = .returned (.bool (inB d 1 31)) ∧ w' = w := by
  by_cases h : 1 ≤ d
  all_goals
    go_enter Tryz.func109, Tryz.ntmps109
    go_wp2
    go_ret
    exact ⟨ret_bool (by unfold inB; rw [Bool.eq_iff_iff]; simp; omega), rfl⟩
theorem isWeekday_c (d : Int) (w : World) : Calls Tryz.prog 110 #[.int .i64 d] w fun e w' => e = .returned (.bool (inB d 0 6)) ∧ w' = w := by
  by_cases h : 0 ≤ d
  all_goals
    go_enter Tryz.func110, Tryz.ntmps110
    go_wp2
    go_ret
    exact ⟨ret_bool (by unfold inB; rw [Bool.eq_iff_iff]; simp; omega), rfl⟩

theorem in_cases (n a b : Int) : inB n a b = true ∧ a ≤ n ∧ n ≤ b ∨ inB n a b = false ∧ (n < a ∨ b < n) := by
  cases h : inB n a b
  · exact .inr ⟨rfl, by unfold inB at h; simp at h; omega⟩
  · exact .inl ⟨rfl, in_of h⟩
theorem beq_cases (a b : Int) : (a == b) = true ∧ a = b ∨ (a == b) = false ∧ a ≠ b := by
  by_cases h : a = b
  · exact .inl ⟨beq_iff_eq.2 h, h⟩
  · exact .inr ⟨beq_eq_false_iff_ne.2 h, h⟩

set_option maxHeartbeats 4000000 in
theorem Check_c (k wk d : Int) (w : World) : Calls Tryz.prog 93 #[onV k wk d] w fun e w' => e = .returned (.int .i64 (chk k wk d)) ∧ Below w.heap.size w w' := by
  rcases beq_cases k 1 with ⟨k1, rfl⟩ | ⟨k1, k1'⟩
  · clear k1
    rcases beq_cases wk 0 with ⟨a1, rfl⟩ | ⟨a1, a2⟩
    · clear a1
      rcases in_cases d 1 31 with ⟨b1, b2⟩ | ⟨b1, b2⟩
      all_goals
        have hv : chk 1 0 d = (if inB d 1 31 then 0 else 3) := by unfold chk; rw [b1]; simp; omega
        rw [hv, b1]
        clear hv b2
        go_enter Tryz.func93, Tryz.ntmps93
        go_wp2_with (go_at_call 109; refine (pisDay_c _ _).mono ?_; rintro e w' ⟨rfl, rfl⟩)
        go_ret
        exact ⟨rfl, (Below.refl _ _).alloc (Nat.le_refl _) _⟩
    · have hv : chk 1 wk d = 3 := by unfold chk; omega
      rw [hv]
      clear hv a2
      go_enter Tryz.func93, Tryz.ntmps93
      go_wp2
      go_ret
      exact ⟨rfl, (Below.refl _ _).alloc (Nat.le_refl _) _⟩
  · rcases beq_cases k 2 with ⟨k2, rfl⟩ | ⟨k2, k2'⟩
    · clear k1 k1' k2
      rcases in_cases wk 0 6 with ⟨b1, b2⟩ | ⟨b1, b2⟩
      · rcases beq_cases d 0 with ⟨a1, rfl⟩ | ⟨a1, a2⟩
        · have hv : chk 2 wk 0 = 0 := by unfold chk; omega
          rw [hv]
          clear hv b2 a1
          go_enter Tryz.func93, Tryz.ntmps93
          go_wp2_with (go_at_call 110; refine (isWeekday_c _ _).mono ?_; rintro e w' ⟨rfl, rfl⟩)
          go_ret
          exact ⟨rfl, (Below.refl _ _).alloc (Nat.le_refl _) _⟩
        · have hv : chk 2 wk d = 3 := by unfold chk; omega
          rw [hv]
          clear hv b2 a2
          go_enter Tryz.func93, Tryz.ntmps93
          go_wp2_with (go_at_call 110; refine (isWeekday_c _ _).mono ?_; rintro e w' ⟨rfl, rfl⟩)
          go_ret
          exact ⟨rfl, (Below.refl _ _).alloc (Nat.le_refl _) _⟩
      · have hv : chk 2 wk d = 3 := by unfold chk; omega
        rw [hv]
        clear hv b2
        go_enter Tryz.func93, Tryz.ntmps93
        go_wp2_with (go_at_call 110; refine (isWeekday_c _ _).mono ?_; rintro e w' ⟨rfl, rfl⟩)
        go_ret
        exact ⟨rfl, (Below.refl _ _).alloc (Nat.le_refl _) _⟩
    · rcases beq_cases k 3 with ⟨k3, rfl⟩ | ⟨k3, k3'⟩
      · clear k1 k1' k2 k2' k3
        rcases in_cases wk 0 6 with ⟨b1, b2⟩ | ⟨b1, b2⟩
        · rcases in_cases d 1 31 with ⟨a1, a2⟩ | ⟨a1, a2⟩
          all_goals
            have hv : chk 3 wk d = (if inB d 1 31 then 0 else 3) := by unfold chk; rw [a1]; simp; omega
            rw [hv, a1]
            clear hv b2 a2
            go_enter Tryz.func93, Tryz.ntmps93
            go_wp2_with (first | (go_at_call 110; refine (isWeekday_c _ _).mono ?_; rintro e w' ⟨rfl, rfl⟩) | (go_at_call 109; refine (pisDay_c _ _).mono ?_; rintro e w' ⟨rfl, rfl⟩))
            go_ret
            exact ⟨rfl, (Below.refl _ _).alloc (Nat.le_refl _) _⟩
        · have hv : chk 3 wk d = 3 := by unfold chk; omega
          rw [hv]
          clear hv b2
          go_enter Tryz.func93, Tryz.ntmps93
          go_wp2_with (go_at_call 110; refine (isWeekday_c _ _).mono ?_; rintro e w' ⟨rfl, rfl⟩)
          go_ret
          exact ⟨rfl, (Below.refl _ _).alloc (Nat.le_refl _) _⟩
      · have hv : chk k wk d = 8 := by unfold chk; omega
        rw [hv]
        clear hv k1' k2' k3'
        go_enter Tryz.func93, Tryz.ntmps93
        go_wp2
        go_ret
        exact ⟨rfl, (Below.refl _ _).alloc (Nat.le_refl _) _⟩

/-- The month's last day, asked of Days. -/
theorem lastDay_c (y m : Int) (w : World) (hL : Laid w) (hy1 : 1970 ≤ y) (hy2 : y ≤ 2029) (hm1 : 1 ≤ m) (hm2 : m ≤ 12) :
    Calls Tryz.prog 116 #[.int .i64 y, .int .i64 m] w fun e w' => e = .returned (.int .i64 (Cal.ml y m)) ∧ w' = w := by
  have lb := Cal.ml_bd y m
  have HL : Hid (Laid w) := hL
  clear hL
  go_enter Tryz.func116, Tryz.ntmps116
  go_wp2_with fail
  go_loop [5] (fun k => ∃ j : Int, Cal.ml y m ≤ j ∧ j ≤ 31 ∧ k = .int .i64 j) (fun k => (intOf k).toNat)
  case atStart => exact ⟨31, by omega, by omega, rfl⟩
  case round =>
    obtain ⟨j, hj1, hj2, rfl⟩ := hrel
    by_cases hlt : Cal.ml y m < j
    · have hk : daysE y m j = 3 := by
        have : Cal.okB y m j = false := ok_not (by omega)
        simp [daysE, this]
      go_wp2_with (go_at_call 112; refine (Days_c _ _ _ _ HL.out).mono ?_; rintro e w ⟨rfl, rfl⟩)
      go_round
      case rel => exact ⟨j - 1, by omega, by omega, rfl⟩
      case measure => simp [intOf]; omega
    · have hjm : j = Cal.ml y m := by omega
      have hk : daysE y m j = 0 := by
        have : Cal.okB y m j = true := ok_mk (by omega)
        simp [daysE, this]
      have HJ : Hid (j = Cal.ml y m) := hjm
      clear hjm
      go_wp2_with (go_at_call 112; refine (Days_c _ _ _ _ HL.out).mono ?_; rintro e w ⟨rfl, rfl⟩)
      go_ret
      exact ⟨ret_int HJ.out, rfl⟩

/-- The function literal of Find: what weekday a day of the month has. -/
theorem weekday_c (d f : Int) (b : Nat) (w : World) (hc : w.cell? ⟨b, 0, none⟩ = some (.int .i64 f)) (h1 : 0 ≤ f) (h2 : f < 21915) (h3 : 1 ≤ d) (h4 : d ≤ 31) (h5 : f + d - 1 < 21915) :
    Calls Tryz.prog 113 #[.int .i64 d, .pointer (some ⟨b, 0, none⟩)] w fun e w' => e = .returned (.int .i64 ((f + d + 3) % 7)) ∧ w' = w := by
  have hv : weekR (f + d - 1) = (f + d + 3) % 7 := by
    have : Cal.dayB (f + d - 1) = true := day_mk (by omega)
    simp only [weekR, this, if_true]
    rw [show f + d - 1 + 4 = f + d + 3 from by omega]
  go_enter Tryz.func113, Tryz.ntmps113
  go_wp2_with (go_at_call 114; refine (Week_c _ _).mono ?_; rintro e w ⟨rfl, rfl⟩)
  go_ret
  exact ⟨rfl, rfl⟩
end Go.Proofs.YtbpdbggojgijiaaGreatDoor

/- Contracts of package pick: choose, in its three kinds. -/
namespace Go.Proofs.YtbpdbggojgijiaaGreatDoor
open Go Go.RowKit
set_option linter.unusedVariables false

theorem ret_ii {a b c d : Int} (h : a = b) (k : c = d) : Ending.returned (.tuple #[.int .i64 a, .int .i64 c]) = .returned (.tuple #[.int .i64 b, .int .i64 d]) := by rw [h, k]
theorem hideH {p : Prop} (h : p) : Hid p := h
abbrev dayF (b : Nat) : Value := .func (.func 113) #[] #[.pointer (some ⟨b, 0, none⟩)]
/-- the day that is chosen, of a month that begins at day f and has L days; 0: none -/
def pickd (k wk D L f : Int) : Int :=
  if k = 1 then (if D ≤ L then D else 0) else if k = 2 then L - (f + L + 3 - wk) % 7
  else if D + (wk - (f + D + 3)) % 7 ≤ L then D + (wk - (f + D + 3)) % 7 else 0

theorem choose_exact (D L : Int) (b : Nat) (w : World) :
    Calls Tryz.prog 115 #[onV 1 0 D, .int .i64 L, dayF b] w fun e w' => e = .returned (.int .i64 (if D ≤ L then D else 0)) ∧ Below w.heap.size w w' := by
  by_cases h : D ≤ L
  · rw [if_pos h]
    go_enter Tryz.func115, Tryz.ntmps115
    go_wp2
    go_ret
    exact ⟨rfl, (Below.refl _ _).alloc (Nat.le_refl _) _⟩
  · rw [if_neg h]
    go_enter Tryz.func115, Tryz.ntmps115
    go_wp2
    go_ret
    exact ⟨rfl, (Below.refl _ _).alloc (Nat.le_refl _) _⟩

set_option maxHeartbeats 2000000 in
theorem choose_last (wk D L f : Int) (b : Nat) (w : World) (hc : w.cell? ⟨b, 0, none⟩ = some (.int .i64 f)) (h1 : 0 ≤ f) (h2 : f < 21915) (h3 : 28 ≤ L) (h4 : L ≤ 31) (h5 : f + L - 1 < 21915) (k1 : 0 ≤ wk) (k2 : wk ≤ 6) :
    Calls Tryz.prog 115 #[onV 2 wk D, .int .i64 L, dayF b] w fun e w' => e = .returned (.int .i64 (L - (f + L + 3 - wk) % 7)) ∧ Below w.heap.size w w' := by
  have hb := cell_lt hc
  go_enter Tryz.func115, Tryz.ntmps115
  go_wp2_with fail
  go_loopw [7] (fun k v => ∃ j : Int, L - (f + L + 3 - wk) % 7 ≤ j ∧ j ≤ L ∧ k = .int .i64 j ∧ v.cell? ⟨b, 0, none⟩ = some (.int .i64 f) ∧ v.cell? ⟨w.heap.size, 1, none⟩ = some (.int .i64 wk) ∧ Below w.heap.size w v) (fun k _ => (intOf k).toNat)
  case atStart => exact ⟨L, by omega, by omega, rfl, by go_simp, by go_simp, (Below.refl _ _).alloc (Nat.le_refl _) _⟩
  case round =>
    obtain ⟨j, hj1, hj2, rfl, c1, c2, hB⟩ := hrel
    have hj0 : 1 ≤ j := by omega
    by_cases hlt : L - (f + L + 3 - wk) % 7 < j
    · have ht : ((f + j + 3) % 7 == wk) = false := beq_eq_false_iff_ne.2 (by omega)
      go_wp2_with fail
      go_quiet ((go_at_call 113; exact Calls.quiet_of_same (weekday_c _ f b _ (by assumption) (by omega) (by omega) (by omega) (by omega) (by omega))))
      go_wp2_with fail
      exact ⟨⟨j - 1, by omega, by omega, rfl, c1, c2, below_drewN hB _⟩, by simp [intOf]; omega⟩
    · have hj : j = L - (f + L + 3 - wk) % 7 := by omega
      have ht : ((f + j + 3) % 7 == wk) = true := beq_iff_eq.2 (by omega)
      have HJ : Hid (j = L - (f + L + 3 - wk) % 7) := hj
      clear hj hlt
      go_wp2_with fail
      go_quiet ((go_at_call 113; exact Calls.quiet_of_same (weekday_c _ f b _ (by assumption) (by omega) (by omega) (by omega) (by omega) (by omega))))
      go_wp2_with fail
      go_ret
      exact ⟨ret_int HJ.out, below_drewN hB _⟩

set_option maxHeartbeats 2000000 in
theorem choose_after (wk D L f : Int) (b : Nat) (w : World) (hc : w.cell? ⟨b, 0, none⟩ = some (.int .i64 f)) (h1 : 0 ≤ f) (h2 : f < 21915) (h3 : 28 ≤ L) (h4 : L ≤ 31) (h5 : f + L - 1 < 21915) (k1 : 0 ≤ wk) (k2 : wk ≤ 6) (d1 : 1 ≤ D) (d2 : D ≤ 31) :
    Calls Tryz.prog 115 #[onV 3 wk D, .int .i64 L, dayF b] w fun e w' => e = .returned (.int .i64 (if D + (wk - (f + D + 3)) % 7 ≤ L then D + (wk - (f + D + 3)) % 7 else 0)) ∧ Below w.heap.size w w' := by
  have hb := cell_lt hc
  have hx : D ≤ D + (wk - (f + D + 3)) % 7 ∧ D + (wk - (f + D + 3)) % 7 ≤ D + 6 ∧ (f + (D + (wk - (f + D + 3)) % 7) + 3) % 7 = wk ∧ ∀ j, D ≤ j → j < D + (wk - (f + D + 3)) % 7 → (f + j + 3) % 7 ≠ wk := by
    refine ⟨by omega, by omega, by omega, fun j a b => by omega⟩
  generalize D + (wk - (f + D + 3)) % 7 = X at *
  obtain ⟨x1, x2, x3, x4⟩ := hx
  have X3 : Hid ((f + X + 3) % 7 = wk) := x3
  have X4 : Hid (∀ j, D ≤ j → j < X → (f + j + 3) % 7 ≠ wk) := x4
  clear x3 x4
  generalize hR : (if X ≤ L then X else 0) = R
  have HR : Hid ((if X ≤ L then X else 0) = R) := hR
  clear hR
  go_enter Tryz.func115, Tryz.ntmps115
  go_wp2_with fail
  go_loopw [8] (fun k v => ∃ j : Int, D ≤ j ∧ j ≤ X ∧ k = .int .i64 j ∧ v.cell? ⟨b, 0, none⟩ = some (.int .i64 f) ∧ v.cell? ⟨w.heap.size, 1, none⟩ = some (.int .i64 wk) ∧ Below w.heap.size w v) (fun k _ => (X + 1 - intOf k).toNat)
  case atStart => exact ⟨D, by omega, by omega, rfl, by go_simp, by go_simp, (Below.refl _ _).alloc (Nat.le_refl _) _⟩
  case round =>
    obtain ⟨j, hj1, hj2, rfl, c1, c2, hB⟩ := hrel
    by_cases hL : j ≤ L
    · by_cases hlt : j < X
      · have ht : ((f + j + 3) % 7 == wk) = false := beq_eq_false_iff_ne.2 (X4.out j hj1 hlt)
        go_wp2_with fail
        go_quiet ((go_at_call 113; exact Calls.quiet_of_same (weekday_c _ f b _ (by assumption) (by omega) (by omega) (by omega) (by omega) (by omega))))
        go_wp2_with fail
        exact ⟨⟨j + 1, by omega, by omega, rfl, c1, c2, below_drewN hB _⟩, by simp [intOf]; omega⟩
      · have hj : j = X := by omega
        subst hj
        have ht : ((f + j + 3) % 7 == wk) = true := beq_iff_eq.2 X3.out
        go_wp2_with fail
        go_quiet ((go_at_call 113; exact Calls.quiet_of_same (weekday_c _ f b _ (by assumption) (by omega) (by omega) (by omega) (by omega) (by omega))))
        go_wp2_with fail
        go_ret
        exact ⟨ret_int (by rw [← HR.out, if_pos hL]), below_drewN hB _⟩
    · go_wp2_with fail
      go_ret
      exact ⟨ret_int (by rw [← HR.out, if_neg (by omega)]), hB⟩

theorem choose_c (k wk D L f : Int) (b : Nat) (w : World) (hc : w.cell? ⟨b, 0, none⟩ = some (.int .i64 f)) (h1 : 0 ≤ f) (h2 : f < 21915) (h3 : 28 ≤ L) (h4 : L ≤ 31) (h5 : f + L - 1 < 21915) (hk : chk k wk D = 0) :
    Calls Tryz.prog 115 #[onV k wk D, .int .i64 L, dayF b] w fun e w' => e = .returned (.int .i64 (pickd k wk D L f)) ∧ Below w.heap.size w w' := by
  unfold chk at hk
  have h : k = 1 ∨ k = 2 ∨ k = 3 := by omega
  rcases h with rfl | rfl | rfl
  · have : wk = 0 := by omega
    subst this
    exact choose_exact D L b w
  · exact choose_last wk D L f b w hc h1 h2 h3 h4 h5 (by omega) (by omega)
  · exact choose_after wk D L f b w hc h1 h2 h3 h4 h5 (by omega) (by omega) (by omega) (by omega)

def findR (y m k wk D : Int) : Int := if chk k wk D = 0 ∧ Cal.okB y m 1 = true then pickd k wk D (Cal.ml y m) (Cal.num y m 1) else 0
def findE (y m k wk D : Int) : Int := if chk k wk D = 0 then (if Cal.okB y m 1 = true then (if pickd k wk D (Cal.ml y m) (Cal.num y m 1) = 0 then 4 else 0) else 3) else chk k wk D

set_option maxHeartbeats 2000000 in
theorem Find_c (y m k wk D : Int) (w : World) (hL : Laid w) :
    Calls Tryz.prog 95 #[.int .i64 y, .int .i64 m, onV k wk D] w fun e w' => e = .returned (.tuple #[.int .i64 (findR y m k wk D), .int .i64 (findE y m k wk D)]) ∧ Below w.heap.size w w' := by
  rcases beq_cases (chk k wk D) 0 with ⟨hk, hk'⟩ | ⟨hk, hk'⟩
  · cases hok : Cal.okB y m 1
    · have e1 : findR y m k wk D = 0 := by simp [findR, hok]
      have e2 : findE y m k wk D = 3 := by simp [findE, hok, hk']
      have e3 : daysE y m 1 = 3 := by simp [daysE, hok]
      rw [e1, e2]
      have HL : Hid (Laid w) := hL
      clear e1 e2 hL hok hk
      go_enter Tryz.func95, Tryz.ntmps95
      go_wp2_with fail
      refine (Check_c _ _ _ _).mono ?_
      rintro e w1 ⟨rfl, hw1⟩
      have HL1 : Hid (Laid w1) := HL.out.on (bel_box hw1)
      go_wp2_with fail
      refine (Days_c _ _ _ _ HL1.out).mono ?_
      rintro e w1 ⟨rfl, rfl⟩
      go_wp2_with fail
      go_ret2
      exact ⟨rfl, (bel_box hw1).alloc (by have := hw1.size; simp at this; omega) _⟩
    · have hyr := ok_of hok
      have e3 : daysE y m 1 = 0 := by simp [daysE, hok]
      have e4 : daysR y m 1 = Cal.num y m 1 := by simp [daysR, hok]
      have hb1 := daysR_bd y m 1
      have hb2 := daysR_bd y m (Cal.ml y m)
      have hlb := Cal.ml_bd y m
      have ok2 : Cal.okB y m (Cal.ml y m) = true := ok_mk (by omega)
      have hb3 : Cal.num y m 1 + Cal.ml y m - 1 < 21915 := by
        simp only [daysR, ok2, if_true, Cal.num] at hb2; unfold Cal.num; omega
      rw [e4] at hb1
      have e1 : findR y m k wk D = pickd k wk D (Cal.ml y m) (Cal.num y m 1) := by simp [findR, hok, hk']
      have e2 : findE y m k wk D = if pickd k wk D (Cal.ml y m) (Cal.num y m 1) = 0 then 4 else 0 := by simp [findE, hok, hk']
      rw [e1, e2]
      have HL : Hid (Laid w) := hL
      have HK : Hid (chk k wk D = 0) := hk'
      obtain ⟨y1, y2, m1, m2, _, _⟩ := hyr
      clear e1 e2 hL hok hk ok2 hb2
      generalize Cal.num y m 1 = F at *
      have hP : ((pickd k wk D (Cal.ml y m) F == 0) = true ∧ Hid (pickd k wk D (Cal.ml y m) F = 0)) ∨ ((pickd k wk D (Cal.ml y m) F == 0) = false ∧ Hid (¬ pickd k wk D (Cal.ml y m) F = 0)) := by
        rcases beq_cases (pickd k wk D (Cal.ml y m) F) 0 with ⟨p1, p2⟩ | ⟨p1, p2⟩
        · exact .inl ⟨p1, p2⟩
        · exact .inr ⟨p1, p2⟩
      generalize hG : pickd k wk D (Cal.ml y m) F = G
      generalize hV : (if G = 0 then (4 : Int) else 0) = V
      have HG := hideH hG
      have HV := hideH hV
      clear hG hV
      go_enter Tryz.func95, Tryz.ntmps95
      go_wp2_with fail
      refine (Check_c _ _ _ _).mono ?_
      rintro e w1 ⟨rfl, hw1⟩
      have HL1 : Hid (Laid w1) := HL.out.on (bel_box hw1)
      obtain ⟨hcc, hff⟩ := bcell hw1
      have hsz : w.heap.size < w1.heap.size := by have := hw1.size; simp at this; omega
      go_wp2_with fail
      refine (Days_c _ _ _ _ HL1.out).mono ?_
      rintro e w1 ⟨rfl, rfl⟩
      go_wp2_with fail
      have hz : w.heap.size < (w.alloc (.cells #[.int .i64 k, .int .i64 wk, .int .i64 D] 63)).heap.size := by simp
      have c0 : (w1.alloc (.cells #[.int .i64 F] 3)).cell? ⟨w.heap.size, 0, none⟩ = some (.int .i64 k) := by have := hcc _ 0 hz; go_simp
      have c1 : (w1.alloc (.cells #[.int .i64 F] 3)).cell? ⟨w.heap.size, 1, none⟩ = some (.int .i64 wk) := by have := hcc _ 1 hz; go_simp
      have c2 : (w1.alloc (.cells #[.int .i64 F] 3)).cell? ⟨w.heap.size, 2, none⟩ = some (.int .i64 D) := by have := hcc _ 2 hz; go_simp
      have c3 : (w1.alloc (.cells #[.int .i64 F] 3)).cell? ⟨w1.heap.size, 0, none⟩ = some (.int .i64 F) := by go_simp
      have HB : Hid (Below w.heap.size w (w1.alloc (.cells #[.int .i64 F] 3))) := (bel_box hw1).alloc (by omega) _
      have HL2 : Hid (Laid (w1.alloc (.cells #[.int .i64 F] 3))) := HL.out.on HB.out
      clear hcc hff hw1 HL1 hz hsz
      generalize w1.alloc (.cells #[.int .i64 F] 3) = w2 at *
      generalize w1.heap.size = b9 at *
      go_region_with (first
        | (go_at_call 116; refine (lastDay_c _ _ _ (by exact HL2.out) y1 y2 m1 m2).mono ?_; rintro e w' ⟨rfl, rfl⟩)
        | (go_at_call 115; refine (choose_c _ _ _ _ F _ _ (by exact c3) hb1.1 hb1.2 hlb.1 hlb.2 hb3 HK.out).mono ?_; rintro e w3 ⟨rfl, hw3⟩))
      all_goals
        rcases hP with ⟨p1, P2⟩ | ⟨p1, P2⟩
        · go_wp2
          go_ret2
          exact ⟨ret_ii (by rw [← HG.out, P2.out]) (by rw [← HV.out, ← HG.out, if_pos P2.out]), bthen HB.out.drew hw3⟩
        · go_wp2
          go_ret2
          exact ⟨ret_ii HG.out (by rw [← HV.out, ← HG.out, if_neg P2.out]), bthen HB.out.drew hw3⟩
  · have e1 : findR y m k wk D = 0 := by simp [findR, hk']
    have e2 : findE y m k wk D = chk k wk D := by simp [findE, hk']
    rw [e1, e2]
    have hne : (chk k wk D != 0) = true := by rw [bne_iff_ne]; exact hk'
    clear e1 e2 hL hk'
    go_enter Tryz.func95, Tryz.ntmps95
    go_wp2_with fail
    refine (Check_c _ _ _ _).mono ?_
    rintro e w1 ⟨rfl, hw1⟩
    go_wp2_with fail
    go_ret2
    exact ⟨rfl, bel_box hw1⟩
end Go.Proofs.YtbpdbggojgijiaaGreatDoor

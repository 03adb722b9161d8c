/- Contracts of the document's own answers (package gnomonref): DaysOf. -/
import Derived.Test.YtlmhapbmebnmlabDoorRefA
namespace Go.Proofs.YtlmhapbmebnmlabDoor
open Go Go.RowKit
set_option linter.unusedVariables false

theorem bthen {w a b : World} (h : Below w.heap.size w a) (k : Below a.heap.size a b) : Below w.heap.size w b := h.trans (k.mono h.size)
theorem in_of {n a b : Int} (h : inB n a b = true) : a ≤ n ∧ n ≤ b := by unfold inB at h; simpa using h
theorem in_mk {n a b : Int} (h : a ≤ n ∧ n ≤ b) : inB n a b = true := by unfold inB; simpa using h
theorem in_not {n a b : Int} (h : ¬ (a ≤ n ∧ n ≤ b)) : inB n a b = false := by unfold inB; simpa using h

set_option maxHeartbeats 2000000 in
theorem DaysOf_yes (y m d : Int) (w : World) (hy1 : 1970 ≤ y) (hy2 : y ≤ 2029) (hm1 : 1 ≤ m) (hm2 : m ≤ 12) (hd1 : 1 ≤ d) (hd2 : d ≤ Cal.ml y m) :
    Calls Tryd.prog 34 #[.int .i64 y, .int .i64 m, .int .i64 d] w fun e w' => e = .returned (.tuple #[.int .i64 (Cal.num y m d), .int .i64 0]) ∧ Below w.heap.size w w' := by
  have hyr : Cal.yrB y = true := by unfold Cal.yrB; simp; omega
  have hmo : Cal.moB m = true := by unfold Cal.moB; simp; omega
  have hin : inB d 1 (Cal.ml y m) = true := in_mk ⟨hd1, hd2⟩
  have hb := Cal.ml_bd y m
  have ha := Cal.ahead_bd y hy1 (by omega)
  go_enter Tryd.func34, Tryd.ntmps34
  go_wp2_with (first
    | (go_at_call 25; refine (IsYear_c _ _).mono ?_; rintro e w ⟨rfl, rfl⟩)
    | (go_at_call 26; refine (RisMonth_c _ _).mono ?_; rintro e w ⟨rfl, rfl⟩)
    | (go_at_call 17; refine (within_c _ _ _ _).mono ?_; rintro e w1 ⟨rfl, rfl⟩)
    | (go_at_call 42; refine (monthDays_c _ _ _ (by omega) hm1 hm2).mono ?_; rintro e w1 ⟨rfl, hw1⟩))
  go_loop [8, 9] (fun n k => ∃ j : Int, 1970 ≤ j ∧ j ≤ y ∧ k = .int .i64 j ∧ n = .int .i64 (Cal.ahead j + d - 1)) (fun _ k => (y - intOf k).toNat)
  case atStart => exact ⟨1970, by omega, hy1, rfl, by unfold Cal.ahead; go_num⟩
  case round =>
    obtain ⟨j, hj1, hj2, rfl, rfl⟩ := hrel
    have ja := Cal.ahead_bd j hj1 (by omega)
    have jl := Cal.lp01 j
    by_cases hlt : j < y
    · have HS : Hid (Cal.ahead (j + 1) = Cal.ahead j + 365 + Cal.lp j) := Cal.ahead_succ j
      go_wp2_with (go_at_call 48; refine (yearDays_c _ _ (by omega)).mono ?_; rintro e w1 ⟨rfl, rfl⟩)
      go_round
      case rel => exact ⟨j + 1, by omega, by omega, rfl, by rw [HS.out]; go_num⟩
      case measure => simp [intOf]; omega
    · have hjy : j = y := by omega
      subst hjy
      go_wp2_with fail
      go_loopw [8, 10] (fun n k v => ∃ i : Int, 1 ≤ i ∧ i ≤ m ∧ k = .int .i64 i ∧ n = .int .i64 (Cal.ahead j + d - 1 + Cal.cum j i) ∧ Below w.heap.size w v) (fun _ k _ => (m - intOf k).toNat)
      case atStart => exact ⟨1, by omega, hm1, rfl, by rw [Cal.cum_one]; go_num, hw1⟩
      case round =>
        obtain ⟨i, hi1, hi2, rfl, rfl, hv⟩ := hrel
        have cb := Cal.cum_bd j i
        have lb := Cal.ml_bd j i
        by_cases hlt2 : i < m
        · have HS : Hid (Cal.cum j (i + 1) = Cal.cum j i + Cal.ml j i) := Cal.cum_succ j i (by omega) (by omega)
          go_wp2_with (go_at_call 42; refine (monthDays_c _ _ _ (by omega) (by omega) (by omega)).mono ?_; rintro e w2 ⟨rfl, hw2⟩)
          go_roundw
          case rel => exact ⟨i + 1, by omega, by omega, rfl, by rw [HS.out]; go_num, bthen hv hw2⟩
          case measure => simp [intOf]; omega
        · have him : i = m := by omega
          subst him
          go_wp2
          go_ret2
          exact ⟨rfl, hv⟩

theorem DaysOf_c (y m d : Int) (w : World) :
    Calls Tryd.prog 34 #[.int .i64 y, .int .i64 m, .int .i64 d] w fun e w' => e = .returned (.tuple #[.int .i64 (daysR y m d), .int .i64 (daysE y m d)]) ∧ Below w.heap.size w w' := by
  cases hok : Cal.okB y m d
  · have e1 : daysR y m d = 0 := by simp [daysR, hok]
    have e2 : daysE y m d = 3 := by simp [daysE, hok]
    rw [e1, e2]; clear e1 e2
    unfold Cal.okB at hok
    have hok' := of_decide_eq_false hok
    clear hok
    cases hyr : Cal.yrB y
    · clear hok'
      go_enter Tryd.func34, Tryd.ntmps34
      go_wp2_with (go_at_call 25; refine (IsYear_c _ _).mono ?_; rintro e w ⟨rfl, rfl⟩)
      go_ret2
      exact ⟨rfl, Below.refl _ _⟩
    · have hy := yr_of hyr
      cases hmo : Cal.moB m
      · clear hok'
        go_enter Tryd.func34, Tryd.ntmps34
        go_wp2_with (first
          | (go_at_call 25; refine (IsYear_c _ _).mono ?_; rintro e w ⟨rfl, rfl⟩)
          | (go_at_call 26; refine (RisMonth_c _ _).mono ?_; rintro e w ⟨rfl, rfl⟩))
        go_ret2
        exact ⟨rfl, Below.refl _ _⟩
      · have hm := mo_of hmo
        have hg : inB d 1 (Cal.ml y m) = false := in_not (by omega)
        clear hok'
        go_enter Tryd.func34, Tryd.ntmps34
        go_wp2_with (first
          | (go_at_call 25; refine (IsYear_c _ _).mono ?_; rintro e w ⟨rfl, rfl⟩)
          | (go_at_call 26; refine (RisMonth_c _ _).mono ?_; rintro e w ⟨rfl, rfl⟩)
          | (go_at_call 17; refine (within_c _ _ _ _).mono ?_; rintro e w1 ⟨rfl, rfl⟩)
          | (go_at_call 42; refine (monthDays_c _ _ _ (by omega) (by omega) (by omega)).mono ?_; rintro e w1 ⟨rfl, hw1⟩))
        go_ret2
        exact ⟨rfl, hw1⟩
  · have e1 : daysR y m d = Cal.num y m d := by simp [daysR, hok]
    have e2 : daysE y m d = 0 := by simp [daysE, hok]
    rw [e1, e2]
    obtain ⟨a, b, c, d, e, f⟩ := ok_of hok
    exact DaysOf_yes _ _ _ w a b c d e f

end Go.Proofs.YtlmhapbmebnmlabDoor

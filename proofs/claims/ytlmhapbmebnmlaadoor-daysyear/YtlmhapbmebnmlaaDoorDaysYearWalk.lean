/- The walk of the statement DaysYear: it returns true, the world standing as it was. -/
import Derived.Test.YtlmhapbmebnmlaaDoorDaysM
namespace Go.Proofs.YtlmhapbmebnmlaaDoor
open Go Go.RowKit
set_option linter.unusedVariables false

theorem year_on (y m d : Int) (h : Cal.okB y m d = true) (hy : y < 2029) (hn : ¬ (m = 2 ∧ d = 29)) :
    Cal.okB (y + 1) m d = true ∧ daysR (y + 1) m d - daysR y m d = 365 + (if m ≤ 2 then Cal.lp y else Cal.lp (y + 1)) := by
  obtain ⟨a, b, c, e, f, g⟩ := ok_of h
  have k : Cal.okB (y + 1) m d = true := by
    apply ok_mk
    refine ⟨by omega, by omega, c, e, f, ?_⟩
    unfold Cal.ml Cal.lp at *
    omega
  refine ⟨k, ?_⟩
  simp only [daysR, h, k, if_true, Cal.num]
  have := Cal.ahead_succ y
  unfold Cal.cum
  omega
theorem leap_on (y d : Int) (h : Cal.okB y 2 29 = true) (hy : y < 2029) : Cal.okB (y + 1) 2 29 = false ∧ Cal.lpB y = true := by
  obtain ⟨a, b, c, e, f, g⟩ := ok_of h
  constructor
  · apply ok_not
    unfold Cal.ml Cal.lp at *
    omega
  · unfold Cal.lpB; unfold Cal.ml Cal.lp at g; simp; omega
theorem lp_of (y : Int) : Cal.lp y = if Cal.lpB y then 1 else 0 := by unfold Cal.lp Cal.lpB; simp

set_option maxHeartbeats 4000000 in
theorem DaysYear_w (y m d : Int) (w : World) (hL : Laid w) : Calls Tryd.prog 5 #[.int .i64 y, .int .i64 m, .int .i64 d] w fun e w' => e = .returned (.bool true) ∧ w' = w := by
  have HL : Hid (Laid w) := hL
  clear hL
  cases hok : Cal.okB y m d
  · have e1 : daysE y m d = 3 := by simp [daysE, hok]
    clear hok
    go_enter Tryd.func5, Tryd.ntmps5
    go_wp2_with (first
      | (go_at_call 10; refine (Days_c _ _ _ _ HL.out).mono ?_; rintro e w' ⟨rfl, rfl⟩)
      | (go_at_call 16; refine (daysBegun_c _ HL.out).mono ?_; rintro e w' ⟨rfl, rfl⟩))
    go_ret
    exact ⟨rfl, rfl⟩
  · have e1 : daysE y m d = 0 := by simp [daysE, hok]
    obtain ⟨y1, y2, m1, m2, d1, d2⟩ := ok_of hok
    by_cases hy : y < 2029
    · have b1 := daysR_bd y m d
      have b2 := daysR_bd (y + 1) m d
      have l1 : leapE y = 0 := by unfold leapE Cal.yrB; simp; omega
      have l2 : leapE (y + 1) = 0 := by unfold leapE Cal.yrB; simp; omega
      have l3 : leapR y = Cal.lpB y := by have : Cal.yrB y = true := by (unfold Cal.yrB; simp; omega)
                                          simp [leapR, this]
      have l4 : leapR (y + 1) = Cal.lpB (y + 1) := by have : Cal.yrB (y + 1) = true := by (unfold Cal.yrB; simp; omega)
                                                      simp [leapR, this]
      by_cases hs : m = 2 ∧ d = 29
      · obtain ⟨rfl, rfl⟩ := hs
        obtain ⟨k1, k2⟩ := leap_on y 29 hok hy
        have e2 : daysE (y + 1) 2 29 = 3 := by simp [daysE, k1]
        clear hok k1
        go_enter Tryd.func5, Tryd.ntmps5
        go_wp2_with (first
          | (go_at_call 10; refine (Days_c _ _ _ _ HL.out).mono ?_; rintro e w' ⟨rfl, rfl⟩)
          | (go_at_call 9; refine (Leap_c _ _).mono ?_; rintro e w' ⟨rfl, rfl⟩)
          | (go_at_call 16; refine (daysBegun_c _ HL.out).mono ?_; rintro e w' ⟨rfl, rfl⟩))
        go_ret
        exact ⟨rfl, rfl⟩
      · obtain ⟨k1, k2⟩ := year_on y m d hok hy hs
        have e2 : daysE (y + 1) m d = 0 := by simp [daysE, k1]
        have H2 : Hid (daysR (y + 1) m d - daysR y m d = 365 + (if m ≤ 2 then Cal.lp y else Cal.lp (y + 1))) := k2
        have p1 := lp_of y
        have p2 := lp_of (y + 1)
        rw [p1, p2] at H2
        clear hok k1 k2 p1 p2
        by_cases hm2 : m = 2
        · subst hm2
          have hd : (d == 29) = false := beq_eq_false_iff_ne.2 (fun h => hs ⟨rfl, h⟩)
          clear hs
          cases q1 : Cal.lpB y <;> cases q2 : Cal.lpB (y + 1)
          all_goals
            rw [q1, q2] at H2
            go_enter Tryd.func5, Tryd.ntmps5
            go_wp2_with (first
              | (go_at_call 10; refine (Days_c _ _ _ _ HL.out).mono ?_; rintro e w' ⟨rfl, rfl⟩)
              | (go_at_call 9; refine (Leap_c _ _).mono ?_; rintro e w' ⟨rfl, rfl⟩)
              | (go_at_call 16; refine (daysBegun_c _ HL.out).mono ?_; rintro e w' ⟨rfl, rfl⟩))
            go_ret
            exact ⟨ret_bool (by have := H2.out; simp at this; simp; omega), rfl⟩
        · have hne : (m == 2) = false := beq_eq_false_iff_ne.2 hm2
          clear hs
          by_cases hle : m ≤ 2
          all_goals
            first | rw [if_pos hle] at H2 | rw [if_neg hle] at H2
            cases q1 : Cal.lpB y <;> cases q2 : Cal.lpB (y + 1)
          all_goals
            first | rw [q1] at H2 | rw [q2] at H2
            go_enter Tryd.func5, Tryd.ntmps5
            go_wp2_with (first
              | (go_at_call 10; refine (Days_c _ _ _ _ HL.out).mono ?_; rintro e w' ⟨rfl, rfl⟩)
              | (go_at_call 9; refine (Leap_c _ _).mono ?_; rintro e w' ⟨rfl, rfl⟩)
              | (go_at_call 16; refine (daysBegun_c _ HL.out).mono ?_; rintro e w' ⟨rfl, rfl⟩))
            go_ret
            exact ⟨ret_bool (by have := H2.out; simp at this; simp; omega), rfl⟩
    · have hy9 : y = 2029 := by omega
      subst hy9
      go_enter Tryd.func5, Tryd.ntmps5
      go_wp2_with (first
        | (go_at_call 10; refine (Days_c _ _ _ _ HL.out).mono ?_; rintro e w' ⟨rfl, rfl⟩)
        | (go_at_call 16; refine (daysBegun_c _ HL.out).mono ?_; rintro e w' ⟨rfl, rfl⟩))
      go_ret
      exact ⟨rfl, rfl⟩
end Go.Proofs.YtlmhapbmebnmlaaDoor

/- The walk of the statement DaysBack: it returns true, the world standing as it was. -/
import Derived.Test.YtlmhapbmebnmlaaDoorDaysM
namespace Go.Proofs.YtlmhapbmebnmlaaDoor
open Go Go.RowKit
set_option linter.unusedVariables false

set_option maxHeartbeats 8000000 in
theorem DaysBack_w (y m d day : Int) (w : World) (hL : Laid w) : Calls Tryd.prog 4 #[.int .i64 y, .int .i64 m, .int .i64 d, .int .i64 day] w fun e w' => e = .returned (.bool true) ∧ w' = w := by
  have HL : Hid (Laid w) := hL
  clear hL
  -- the first half: a date, or none
  have first : (daysE y m d = 3) ∨ (daysE y m d = 0 ∧ weekE (daysR y m d) = 0 ∧ dateY (daysR y m d) = y ∧ dateM (daysR y m d) = m ∧ dateD (daysR y m d) = d) := by
    cases hok : Cal.okB y m d
    · exact .inl (by simp [daysE, hok])
    · right
      have hb := daysR_bd y m d
      obtain ⟨b1, b2, b3⟩ := back_date y m d hok
      have hd : Cal.dayB (daysR y m d) = true := day_mk hb
      have hn : daysR y m d = Cal.num y m d := by simp [daysR, hok]
      refine ⟨by simp [daysE, hok], by simp [weekE, hd], ?_, ?_, ?_⟩
      · simp only [dateY, hd, if_true]; rw [hn]; exact b1
      · simp only [dateM, hd, if_true]; rw [hn]; exact b2
      · simp only [dateD, hd, if_true]; rw [hn]; exact b3
  cases hdy : Cal.dayB day
  · have e1 : weekE day = 3 := by simp [weekE, hdy]
    clear hdy
    rcases first with e2 | ⟨e2, e3, e4, e5, e6⟩
    all_goals
      go_enter Tryd.func4, Tryd.ntmps4
      go_wp2_with (first
        | (go_at_call 10; refine (Days_c _ _ _ _ HL.out).mono ?_; rintro e w' ⟨rfl, rfl⟩)
        | (go_at_call 11; refine (Date_c _ _ HL.out).mono ?_; rintro e w' ⟨rfl, rfl⟩)
        | (go_at_call 16; refine (daysBegun_c _ HL.out).mono ?_; rintro e w' ⟨rfl, rfl⟩))
      go_ret
      exact ⟨rfl, rfl⟩
  · have e1 : weekE day = 0 := by simp [weekE, hdy]
    obtain ⟨d1, d2⟩ := day_of hdy
    obtain ⟨o, n1, _⟩ := date_spec day d1 d2
    have f1 : dateY day = Cal.yOf day := by simp [dateY, hdy]
    have f2 : dateM day = Cal.monOf day := by simp [dateM, hdy]
    have f3 : dateD day = Cal.domOf day := by simp [dateD, hdy]
    rw [← f1, ← f2, ← f3] at o n1
    have g1 : daysE (dateY day) (dateM day) (dateD day) = 0 := by simp [daysE, o]
    have g2 : daysR (dateY day) (dateM day) (dateD day) = day := by simp only [daysR, o, if_true]; exact n1
    by_cases hlast : day = 21914
    · have hb : (day == 21914) = true := beq_iff_eq.2 hlast
      clear hdy f1 f2 f3 o n1 hlast d1 d2
      rcases first with e2 | ⟨e2, e3, e4, e5, e6⟩
      all_goals
        go_enter Tryd.func4, Tryd.ntmps4
        go_wp2_with (first
          | (go_at_call 10; refine (Days_c _ _ _ _ HL.out).mono ?_; rintro e w' ⟨rfl, rfl⟩)
          | (go_at_call 11; refine (Date_c _ _ HL.out).mono ?_; rintro e w' ⟨rfl, rfl⟩)
          | (go_at_call 16; refine (daysBegun_c _ HL.out).mono ?_; rintro e w' ⟨rfl, rfl⟩))
        go_ret
        exact ⟨rfl, rfl⟩
    · have hb : (day == 21914) = false := beq_eq_false_iff_ne.2 hlast
      have hdy2 : Cal.dayB (day + 1) = true := day_mk (by omega)
      have e7 : weekE (day + 1) = 0 := by simp [weekE, hdy2]
      obtain ⟨o2, n2, _⟩ := date_spec (day + 1) (by omega) (by omega)
      have k1 : dateY (day + 1) = Cal.yOf (day + 1) := by simp [dateY, hdy2]
      have k2 : dateM (day + 1) = Cal.monOf (day + 1) := by simp [dateM, hdy2]
      have k3 : dateD (day + 1) = Cal.domOf (day + 1) := by simp [dateD, hdy2]
      rw [← k1, ← k2, ← k3] at o2 n2
      have lex := lex_next _ _ _ _ _ _ o o2 (by rw [n1, n2])
      obtain ⟨p1, p2, p3, p4, p5, p6⟩ := ok_of o
      have p7 := Cal.ml_bd (dateY day) (dateM day)
      have p8 : dateD day ≤ 31 := by omega
      have wk : weekR (day + 1) = (weekR day + 1) % 7 := by simp only [weekR, hdy, hdy2, if_true]; omega
      have wb1 : 0 ≤ weekR day := by simp only [weekR, hdy, if_true]; omega
      have wb2 : weekR day < 7 := by simp only [weekR, hdy, if_true]; omega
      clear hdy hdy2 f1 f2 f3 o n1 hlast k1 k2 k3 o2 n2 p6 p7
      rcases lex with x1 | ⟨x1, x2⟩ | ⟨x1, x2, x3⟩
      all_goals rcases first with e2 | ⟨e2, e3, e4, e5, e6⟩
      all_goals
        go_enter Tryd.func4, Tryd.ntmps4
        go_wp2_with (first
          | (go_at_call 10; refine (Days_c _ _ _ _ HL.out).mono ?_; rintro e w' ⟨rfl, rfl⟩)
          | (go_at_call 11; refine (Date_c _ _ HL.out).mono ?_; rintro e w' ⟨rfl, rfl⟩)
          | (go_at_call 12; refine (Week_c _ _).mono ?_; rintro e w' ⟨rfl, rfl⟩)
          | (go_at_call 16; refine (daysBegun_c _ HL.out).mono ?_; rintro e w' ⟨rfl, rfl⟩))
        go_ret
        exact ⟨rfl, rfl⟩
end Go.Proofs.YtlmhapbmebnmlaaDoor

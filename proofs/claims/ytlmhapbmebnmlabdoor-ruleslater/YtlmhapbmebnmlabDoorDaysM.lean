/- Plain facts on what the calls of package days answer: Date of Days, Days of Date, the day behind, the year behind. -/
import Derived.Test.YtlmhapbmebnmlabDoorDaysC
namespace Go.Proofs.YtlmhapbmebnmlabDoor
open Go Go.RowKit
set_option linter.unusedVariables false

theorem daysR_bd (y m d : Int) : 0 ≤ daysR y m d ∧ daysR y m d < 21915 := by
  unfold daysR
  cases h : Cal.okB y m d
  · simp
  · obtain ⟨a, b, c, e, f, g⟩ := ok_of h
    have h1 := Cal.ahead_bd y a (by omega)
    have h2 := Cal.ahead_bd (y + 1) (by omega) (by omega)
    have h3 := Cal.ahead_succ y
    have h4 := Cal.cum_bd y m
    have h5 := Cal.cum_succ y m c e
    have h6 := Cal.cum_mono y (m + 1) 13 (by omega)
    have h7 : Cal.cum y 13 = 365 + Cal.lp y := by unfold Cal.cum; omega
    simp only [if_true, Cal.num]
    omega
theorem num_spec (y m d : Int) (h : Cal.okB y m d = true) : Cal.ahead y ≤ Cal.num y m d ∧ Cal.num y m d < Cal.ahead (y + 1) ∧ Cal.cum y m ≤ Cal.num y m d - Cal.ahead y ∧ Cal.num y m d - Cal.ahead y < Cal.cum y m + Cal.ml y m := by
  obtain ⟨a, b, c, e, f, g⟩ := ok_of h
  have h3 := Cal.ahead_succ y
  have h4 := Cal.cum_bd y m
  have h5 := Cal.cum_succ y m c e
  have h6 := Cal.cum_mono y (m + 1) 13 (by omega)
  have h7 : Cal.cum y 13 = 365 + Cal.lp y := by unfold Cal.cum; omega
  unfold Cal.num
  omega
/-- what Date tells is a date, and the day it was asked of -/
theorem date_spec (day : Int) (h1 : 0 ≤ day) (h2 : day < 21915) : Cal.okB (Cal.yOf day) (Cal.monOf day) (Cal.domOf day) = true ∧ Cal.num (Cal.yOf day) (Cal.monOf day) (Cal.domOf day) = day ∧ Cal.ahead (Cal.yOf day) ≤ day ∧ day < Cal.ahead (Cal.yOf day + 1)
    ∧ Cal.cum (Cal.yOf day) (Cal.monOf day) ≤ day - Cal.ahead (Cal.yOf day) ∧ day - Cal.ahead (Cal.yOf day) < Cal.cum (Cal.yOf day) (Cal.monOf day) + Cal.ml (Cal.yOf day) (Cal.monOf day) := by
  obtain ⟨y1, y2, y3, y4⟩ := Cal.yOf_spec day h1 h2
  have h3 := Cal.ahead_succ (Cal.yOf day)
  obtain ⟨m1, m2, m3, m4⟩ := Cal.mOf_spec (Cal.yOf day) (day - Cal.ahead (Cal.yOf day)) (by omega) (by omega)
  refine ⟨ok_mk ⟨y1, y2, m1, m2, ?_, ?_⟩, ?_, y3, y4, m3, m4⟩
  · unfold Cal.domOf Cal.monOf; omega
  · unfold Cal.domOf Cal.monOf; omega
  · unfold Cal.num Cal.domOf; omega
theorem back_date (y m d : Int) (h : Cal.okB y m d = true) : Cal.yOf (Cal.num y m d) = y ∧ Cal.monOf (Cal.num y m d) = m ∧ Cal.domOf (Cal.num y m d) = d := by
  have hb := daysR_bd y m d
  simp only [daysR, h, if_true] at hb
  obtain ⟨n1, n2, n3, n4⟩ := num_spec y m d h
  obtain ⟨o, e, s1, s2, s3, s4⟩ := date_spec (Cal.num y m d) hb.1 hb.2
  obtain ⟨a, b, c, e', f, g⟩ := ok_of h
  obtain ⟨a2, b2, c2, e2, f2, g2⟩ := ok_of o
  have hy : Cal.yOf (Cal.num y m d) = y := Cal.y_unique _ _ _ s1 s2 n1 n2
  have hm : Cal.monOf (Cal.num y m d) = m := by
    rw [hy] at s3 s4
    exact Cal.m_unique y _ _ (Cal.num y m d - Cal.ahead y) c2 e2 c e' s3 s4 n3 n4
  refine ⟨hy, hm, ?_⟩
  unfold Cal.domOf
  rw [hm, hy]
  unfold Cal.num
  omega
theorem lex_next (y z m n d e : Int) (h : Cal.okB y m d = true) (k : Cal.okB z n e = true) (q : Cal.num z n e = Cal.num y m d + 1) :
    y < z ∨ (z = y ∧ m < n) ∨ (z = y ∧ n = m ∧ e = d + 1) := by
  obtain ⟨n1, n2, n3, n4⟩ := num_spec y m d h
  obtain ⟨o1, o2, o3, o4⟩ := num_spec z n e k
  obtain ⟨a, b, c, e', f, g⟩ := ok_of h
  obtain ⟨a2, b2, c2, e2, f2, g2⟩ := ok_of k
  have hyz : y ≤ z := by
    rcases Int.lt_or_le z y with hlt | hge
    · have : Cal.ahead (z + 1) ≤ Cal.ahead y := by unfold Cal.ahead; omega
      omega
    · exact hge
  rcases Int.lt_or_eq_of_le hyz with hlt | heq
  · exact .inl hlt
  · subst heq
    rcases Int.lt_trichotomy m n with hlt | heq | hgt
    · exact .inr (.inl ⟨rfl, hlt⟩)
    · subst heq
      unfold Cal.num at q
      exact .inr (.inr ⟨rfl, rfl, by omega⟩)
    · have h5 := Cal.cum_succ y n c2 e2
      have h6 := Cal.cum_mono y (n + 1) m (by omega)
      omega
end Go.Proofs.YtlmhapbmebnmlabDoor

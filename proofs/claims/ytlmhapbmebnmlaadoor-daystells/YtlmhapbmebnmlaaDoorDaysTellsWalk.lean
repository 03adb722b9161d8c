/- The walk of the statement DaysTells: it returns true, and nothing that lay in memory has turned. -/
import Derived.Test.YtlmhapbmebnmlaaDoorRefB
namespace Go.Proofs.YtlmhapbmebnmlaaDoor
open Go Go.RowKit
set_option linter.unusedVariables false

theorem cell_lt {w : World} {b o : Nat} {v : Value} (h : w.cell? ⟨b, o, none⟩ = some v) : b < w.heap.size := by
  rcases Nat.lt_or_ge b w.heap.size with h1 | h1
  · exact h1
  · have h2 : w.heap[b]? = none := Array.getElem?_eq_none h1
    simp [World.cell?, h2] at h
theorem Laid.on {w w' : World} (h : Laid w) (k : Below w.heap.size w w') : Laid w' := by
  intro i hi
  rw [k.cell (p := ⟨0, i, none⟩) (cell_lt (h i hi))]
  exact h i hi

set_option maxHeartbeats 8000000 in
theorem DaysTells_w (y m d day : Int) (w : World) (hL : Laid w) : Calls Tryd.prog 3 #[.int .i64 y, .int .i64 m, .int .i64 d, .int .i64 day] w fun e w' => e = .returned (.bool true) ∧ Below w.heap.size w w' := by
  have HL : Hid (Laid w) := hL
  clear hL
  have yc : (Cal.yrB y = false ∧ leapR y = false ∧ leapE y = 3) ∨ (Cal.yrB y = true ∧ leapE y = 0 ∧ 0 ≤ y ∧ ((y % 4 == 0) = true ∧ leapR y = true ∨ (y % 4 == 0) = false ∧ leapR y = false)) := by
    cases hy : Cal.yrB y
    · exact .inl ⟨rfl, by simp [leapR, hy], by simp [leapE, hy]⟩
    · refine .inr ⟨rfl, by simp [leapE, hy], by have := yr_of hy; omega, ?_⟩
      by_cases h4 : y % 4 = 0
      · exact .inl ⟨beq_iff_eq.2 h4, by simp [leapR, hy, Cal.lpB, h4]⟩
      · exact .inr ⟨beq_eq_false_iff_ne.2 h4, by simp [leapR, hy, Cal.lpB, h4]⟩
  have dc : (weekE day = 3 ∧ weekR day = 0) ∨ (weekE day = 0 ∧ weekR day = (day + 4) % 7 ∧ 0 ≤ day ∧ day < 21915) := by
    cases hd : Cal.dayB day
    · exact .inl ⟨by simp [weekE, hd], by simp [weekR, hd]⟩
    · exact .inr ⟨by simp [weekE, hd], by simp [weekR, hd], (day_of hd).1, (day_of hd).2⟩
  rcases dc with ⟨d1, d2⟩ | ⟨d1, d2, d3, d4⟩
  all_goals rcases yc with ⟨y1, y2, y3⟩ | ⟨y1, y2, y0, ⟨y3, y4⟩ | ⟨y3, y4⟩⟩
  all_goals
    go_enter Tryd.func3, Tryd.ntmps3
    go_wp2_with (first
      | (go_at_call 9; refine (Leap_c _ _).mono ?_; rintro e w ⟨rfl, rfl⟩)
      | (go_at_call 10; refine (Days_c _ _ _ _ HL.out).mono ?_; rintro e w ⟨rfl, rfl⟩)
      | (go_at_call 11; refine (Date_c _ _ HL.out).mono ?_; rintro e w ⟨rfl, rfl⟩)
      | (go_at_call 12; refine (Week_c _ _).mono ?_; rintro e w ⟨rfl, rfl⟩))
    refine (DaysOf_c _ _ _ _).mono ?_
    rintro e w1 ⟨rfl, hw1⟩
    go_wp2_with fail
    refine (DateOf_c _ _).mono ?_
    rintro e w2 ⟨rfl, hw2⟩
    have HL2 : Hid (Laid w2) := (HL.out.on hw1).on hw2
    go_wp2_with (first
      | (go_at_call 15; refine (WeekOf_c _ _ (by omega) (by omega)).mono ?_; rintro e w2 ⟨rfl, rfl⟩)
      | (go_at_call 17; refine (IsYear_c _ _).mono ?_; rintro e w2 ⟨rfl, rfl⟩)
      | (go_at_call 16; refine (daysBegun_c _ HL2.out).mono ?_; rintro e w2 ⟨rfl, rfl⟩))
    go_ret
    exact ⟨rfl, bthen hw1 hw2⟩
end Go.Proofs.YtlmhapbmebnmlaaDoor

/- FindOf whatever it is handed; the statements' own pickBegun and choose. -/
import Derived.Test.YtlmhapbmebnmlabDoorPickS
namespace Go.Proofs.YtlmhapbmebnmlabDoor
open Go Go.RowKit
set_option linter.unusedVariables false

theorem FindOf_c (y m k wk D : Int) (w : World) :
    Calls Tryd.prog 29 #[.int .i64 y, .int .i64 m, onV k wk D] w fun e w' => e = .returned (.tuple #[.int .i64 (findR y m k wk D), .int .i64 (findE y m k wk D)]) ∧ Below w.heap.size w w' := by
  rcases beq_cases (chk k wk D) 0 with ⟨hk, hk'⟩ | ⟨hk, hk'⟩
  · cases hok : Cal.okB y m 1
    · have e1 : findR y m k wk D = 0 := by simp [findR, hok]
      have e2 : findE y m k wk D = 3 := by simp [findE, hok, hk']
      rw [e1, e2]
      have hym : Cal.yrB y = false ∨ (Cal.yrB y = true ∧ Cal.moB m = false) := by
        cases h1 : Cal.yrB y
        · exact .inl rfl
        · cases h2 : Cal.moB m
          · exact .inr ⟨rfl, rfl⟩
          · have := Cal.ml_bd y m
            have a := yr_of h1
            have b := mo_of h2
            rw [ok_mk (y := y) (m := m) (d := 1) (by omega)] at hok
            cases hok
      clear e1 e2 hok hk
      rcases hym with h1 | ⟨h1, h2⟩
      all_goals
        go_enter Tryd.func29, Tryd.ntmps29
        go_wp2_with fail
        refine (CheckOn_c _ _ _ _).mono ?_
        rintro e w1 ⟨rfl, hw1⟩
        have HW := hideH (bel_box hw1)
        clear hw1
        go_wp2_with (first
          | (go_at_call 25; refine (IsYear_c _ _).mono ?_; rintro e w1 ⟨rfl, rfl⟩)
          | (go_at_call 26; refine (RisMonth_c _ _).mono ?_; rintro e w1 ⟨rfl, rfl⟩))
        go_ret2
        exact ⟨rfl, HW.out⟩
    · have e1 : findR y m k wk D = pickd k wk D (Cal.ml y m) (Cal.num y m 1) := by simp [findR, hok, hk']
      have e2 : findE y m k wk D = if pickd k wk D (Cal.ml y m) (Cal.num y m 1) = 0 then 4 else 0 := by simp [findE, hok, hk']
      rw [e1, e2]
      exact FindOf_yes y m k wk D w hk' hok
  · have e1 : findR y m k wk D = 0 := by simp [findR, hk']
    have e2 : findE y m k wk D = chk k wk D := by simp [findE, hk']
    rw [e1, e2]
    have hne : (chk k wk D != 0) = true := by rw [bne_iff_ne]; exact hk'
    clear e1 e2 hk'
    go_enter Tryd.func29, Tryd.ntmps29
    go_wp2_with fail
    refine (CheckOn_c _ _ _ _).mono ?_
    rintro e w1 ⟨rfl, hw1⟩
    have HW := hideH (bel_box hw1)
    clear hw1
    go_wp2_with fail
    go_ret2
    exact ⟨rfl, HW.out⟩

/-- which of n things a raw number speaks of -/
def cho (c n : Int) : Int := if c < 0 then (-(c + 1)) % n else c % n
theorem choose_law (c n : Int) (w : World) (hn : 0 < n) (hn2 : n ≤ 1000000) (hc : -9223372036854775808 ≤ c) (hc2 : c ≤ 9223372036854775807) :
    Calls Tryd.prog 14 #[.int .i64 c, .int .i64 n] w fun e w' => e = .returned (.int .i64 (cho c n)) ∧ w' = w := by
  by_cases h : c < 0
  · go_enter Tryd.func14, Tryd.ntmps14
    go_wp2
    go_ret
    exact ⟨ret_int (by unfold cho; rw [if_pos h, ← Int.neg_tmod, Int.tmod_eq_emod_of_nonneg (by omega)]), rfl⟩
  · go_enter Tryd.func14, Tryd.ntmps14
    go_wp2
    go_ret
    exact ⟨ret_int (by unfold cho; rw [if_neg (by omega)]), rfl⟩
theorem cho_bd (c n : Int) (hn : 0 < n) : 0 ≤ cho c n ∧ cho c n < n := by
  unfold cho
  have h1 := Int.emod_nonneg (-(c + 1)) (show n ≠ 0 by omega)
  have h2 := Int.emod_lt_of_pos (-(c + 1)) hn
  have h3 := Int.emod_nonneg c (show n ≠ 0 by omega)
  have h4 := Int.emod_lt_of_pos c hn
  split <;> constructor <;> assumption
end Go.Proofs.YtlmhapbmebnmlabDoor

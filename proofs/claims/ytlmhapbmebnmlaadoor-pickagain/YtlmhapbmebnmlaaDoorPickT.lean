/- FindOf whatever it is handed; the statements' own pickBegun and choose. -/
import Derived.Test.YtlmhapbmebnmlaaDoorPickS
namespace Go.Proofs.YtlmhapbmebnmlaaDoor
open Go Go.RowKit
set_option linter.unusedVariables false

theorem FindOf_c (y m k wk D : Int) (w : World) :
    Calls Tryd.prog 19 #[.int .i64 y, .int .i64 m, onV k wk D] w fun e w' => e = .returned (.tuple #[.int .i64 (findR y m k wk D), .int .i64 (findE y m k wk D)]) ∧ Below w.heap.size w w' := by
  rcases beq_cases (chk k wk D) 0 with ⟨hk, hk'⟩ | ⟨hk, hk'⟩
  · cases hok : Cal.okB y m 1
    · have e1 : findR y m k wk D = 0 := by simp [findR, hok]
      have e2 : findE y m k wk D = 3 := by simp [findE, hok, hk']
      rw [e1, e2]
      have hym : Cal.yrB y = false ∨ (Cal.yrB y = true ∧ Cal.moB m = false) := by
        cases h1 : Cal.yrB y
        · exact .inl rfl
        · cases h2 : Cal.moB m
          · exact .inr ⟨rfl, rfl⟩
          · have := Cal.ml_bd y m
            have a := yr_of h1
            have b := mo_of h2
            rw [ok_mk (y := y) (m := m) (d := 1) (by omega)] at hok
            cases hok
      clear e1 e2 hok hk
      rcases hym with h1 | ⟨h1, h2⟩
      all_goals
        go_enter Tryd.func19, Tryd.ntmps19
        go_wp2_with fail
        refine (CheckOn_c _ _ _ _).mono ?_
        rintro e w1 ⟨rfl, hw1⟩
        have HW := hideH (bel_box hw1)
        clear hw1
        go_wp2_with (first
          | (go_at_call 17; refine (IsYear_c _ _).mono ?_; rintro e w1 ⟨rfl, rfl⟩)
          | (go_at_call 30; refine (RisMonth_c _ _).mono ?_; rintro e w1 ⟨rfl, rfl⟩))
        go_ret2
        exact ⟨rfl, HW.out⟩
    · have e1 : findR y m k wk D = pickd k wk D (Cal.ml y m) (Cal.num y m 1) := by simp [findR, hok, hk']
      have e2 : findE y m k wk D = if pickd k wk D (Cal.ml y m) (Cal.num y m 1) = 0 then 4 else 0 := by simp [findE, hok, hk']
      rw [e1, e2]
      exact FindOf_yes y m k wk D w hk' hok
  · have e1 : findR y m k wk D = 0 := by simp [findR, hk']
    have e2 : findE y m k wk D = chk k wk D := by simp [findE, hk']
    rw [e1, e2]
    have hne : (chk k wk D != 0) = true := by rw [bne_iff_ne]; exact hk'
    clear e1 e2 hk'
    go_enter Tryd.func19, Tryd.ntmps19
    go_wp2_with fail
    refine (CheckOn_c _ _ _ _).mono ?_
    rintro e w1 ⟨rfl, hw1⟩
    have HW := hideH (bel_box hw1)
    clear hw1
    go_wp2_with fail
    go_ret2
    exact ⟨rfl, HW.out⟩

set_option maxHeartbeats 2000000 in
theorem pickBegun_c (w : World) (hL : Laid w) : Calls Tryd.prog 20 #[] w fun e w' => e = .returned (.bool true) ∧ Below w.heap.size w w' := by
  have HL : Hid (Laid w) := hL
  clear hL
  have a1 : findR 2020 3 2 0 0 = 29 := by decide
  have a2 : findE 2020 3 2 0 0 = 0 := by decide
  have a3 : findR 2020 11 3 0 1 = 1 := by decide
  have a4 : findE 2020 11 3 0 1 = 0 := by decide
  have a5 : findE 2021 2 1 0 29 = 4 := by decide
  have a6 : findE 2020 11 3 0 30 = 4 := by decide
  have a7 : chk 0 0 0 = 8 := by decide
  go_enter Tryd.func20, Tryd.ntmps20
  go_wp2_with fail
  refine (Find_c _ _ _ _ _ _ HL.out).mono ?_
  rintro e w1 ⟨rfl, hw1⟩
  have H1 := hideH hw1
  have L1 := hideH (HL.out.on hw1)
  clear hw1
  go_wp2_with fail
  refine (Find_c _ _ _ _ _ _ L1.out).mono ?_
  rintro e w2 ⟨rfl, hw2⟩
  have H2 := hideH (bthen H1.out hw2)
  have L2 := hideH (L1.out.on hw2)
  clear hw2
  go_wp2_with fail
  refine (Find_c _ _ _ _ _ _ L2.out).mono ?_
  rintro e w3 ⟨rfl, hw3⟩
  have H3 := hideH (bthen H2.out hw3)
  have L3 := hideH (L2.out.on hw3)
  clear hw3
  go_wp2_with fail
  refine (Find_c _ _ _ _ _ _ L3.out).mono ?_
  rintro e w4 ⟨rfl, hw4⟩
  have H4 := hideH (bthen H3.out hw4)
  clear hw4
  go_wp2_with fail
  refine (Check_c _ _ _ _).mono ?_
  rintro e w5 ⟨rfl, hw5⟩
  have H5 := hideH (bthen H4.out hw5)
  clear hw5
  go_wp2_with fail
  go_ret
  exact ⟨rfl, H5.out⟩

/-- which of n things a raw number speaks of -/
def cho (c n : Int) : Int := if c < 0 then (-(c + 1)) % n else c % n
theorem choose_law (c n : Int) (w : World) (hn : 0 < n) (hn2 : n ≤ 1000000) (hc : -9223372036854775808 ≤ c) (hc2 : c ≤ 9223372036854775807) :
    Calls Tryd.prog 23 #[.int .i64 c, .int .i64 n] w fun e w' => e = .returned (.int .i64 (cho c n)) ∧ w' = w := by
  by_cases h : c < 0
  · go_enter Tryd.func23, Tryd.ntmps23
    go_wp2
    go_ret
    exact ⟨ret_int (by unfold cho; rw [if_pos h, ← Int.neg_tmod, Int.tmod_eq_emod_of_nonneg (by omega)]), rfl⟩
  · go_enter Tryd.func23, Tryd.ntmps23
    go_wp2
    go_ret
    exact ⟨ret_int (by unfold cho; rw [if_neg (by omega)]), rfl⟩
theorem cho_bd (c n : Int) (hn : 0 < n) : 0 ≤ cho c n ∧ cho c n < n := by
  unfold cho
  have h1 := Int.emod_nonneg (-(c + 1)) (show n ≠ 0 by omega)
  have h2 := Int.emod_lt_of_pos (-(c + 1)) hn
  have h3 := Int.emod_nonneg c (show n ≠ 0 by omega)
  have h4 := Int.emod_lt_of_pos c hn
  split <;> constructor <;> assumption
end Go.Proofs.YtlmhapbmebnmlaaDoor

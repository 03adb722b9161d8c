/- Contracts of the document's own answers on days of months: CheckOn, FindOf. -/
import Derived.Test.YtbpdbggojgijiaaGreatDoorRefAAll
namespace Go.Proofs.YtbpdbggojgijiaaGreatDoor
open Go Go.RowKit
set_option linter.unusedVariables false

set_option maxHeartbeats 4000000 in
theorem CheckOn_c (k wk d : Int) (w : World) : Calls Tryz.prog 40 #[onV k wk d] w fun e w' => e = .returned (.int .i64 (chk k wk d)) ∧ Below w.heap.size w w' := by
  rcases in_cases k 1 3 with ⟨k1, k2⟩ | ⟨k1, k2⟩
  · rcases in_cases wk 0 6 with ⟨b1, b2⟩ | ⟨b1, b2⟩
    · have h : k = 1 ∨ k = 2 ∨ k = 3 := by omega
      rcases h with rfl | rfl | rfl
      · rcases beq_cases wk 0 with ⟨a1, rfl⟩ | ⟨a1, a2⟩
        · rcases in_cases d 1 31 with ⟨c1, c2⟩ | ⟨c1, c2⟩
          all_goals
            have hv : chk 1 0 d = (if inB d 1 31 then 0 else 3) := by unfold chk; rw [c1]; simp; omega
            rw [hv, c1]
            clear hv c2 b2 k2
            go_enter Tryz.func40, Tryz.ntmps40
            go_wp2_with (go_at_call 17; refine (within_c _ _ _ _).mono ?_; rintro e w' ⟨rfl, rfl⟩)
            go_ret
            exact ⟨rfl, (Below.refl _ _).alloc (Nat.le_refl _) _⟩
        · have hv : chk 1 wk d = 3 := by unfold chk; omega
          have hn : (wk != 0) = true := by rw [bne_iff_ne]; exact a2
          rw [hv]
          clear hv a2 b2 k2 a1
          go_enter Tryz.func40, Tryz.ntmps40
          go_wp2_with (go_at_call 17; refine (within_c _ _ _ _).mono ?_; rintro e w' ⟨rfl, rfl⟩)
          go_ret
          exact ⟨rfl, (Below.refl _ _).alloc (Nat.le_refl _) _⟩
      · rcases beq_cases d 0 with ⟨a1, rfl⟩ | ⟨a1, a2⟩
        · have hv : chk 2 wk 0 = 0 := by unfold chk; omega
          rw [hv]
          clear hv b2 a1
          go_enter Tryz.func40, Tryz.ntmps40
          go_wp2_with (go_at_call 17; refine (within_c _ _ _ _).mono ?_; rintro e w' ⟨rfl, rfl⟩)
          go_ret
          exact ⟨rfl, (Below.refl _ _).alloc (Nat.le_refl _) _⟩
        · have hv : chk 2 wk d = 3 := by unfold chk; omega
          have hn : (d != 0) = true := by rw [bne_iff_ne]; exact a2
          rw [hv]
          clear hv b2 a2 a1
          go_enter Tryz.func40, Tryz.ntmps40
          go_wp2_with (go_at_call 17; refine (within_c _ _ _ _).mono ?_; rintro e w' ⟨rfl, rfl⟩)
          go_ret
          exact ⟨rfl, (Below.refl _ _).alloc (Nat.le_refl _) _⟩
      · rcases in_cases d 1 31 with ⟨c1, c2⟩ | ⟨c1, c2⟩
        all_goals
          have hv : chk 3 wk d = (if inB d 1 31 then 0 else 3) := by unfold chk; rw [c1]; simp; omega
          rw [hv, c1]
          clear hv c2 b2 k2
          go_enter Tryz.func40, Tryz.ntmps40
          go_wp2_with (go_at_call 17; refine (within_c _ _ _ _).mono ?_; rintro e w' ⟨rfl, rfl⟩)
          go_ret
          exact ⟨rfl, (Below.refl _ _).alloc (Nat.le_refl _) _⟩
    · have hv : chk k wk d = 3 := by unfold chk; omega
      rw [hv]
      clear hv b2 k2
      go_enter Tryz.func40, Tryz.ntmps40
      go_wp2_with (go_at_call 17; refine (within_c _ _ _ _).mono ?_; rintro e w' ⟨rfl, rfl⟩)
      go_ret
      exact ⟨rfl, (Below.refl _ _).alloc (Nat.le_refl _) _⟩
  · have hv : chk k wk d = 8 := by unfold chk; omega
    rw [hv]
    clear hv k2
    go_enter Tryz.func40, Tryz.ntmps40
    go_wp2_with (go_at_call 17; refine (within_c _ _ _ _).mono ?_; rintro e w' ⟨rfl, rfl⟩)
    go_ret
    exact ⟨rfl, (Below.refl _ _).alloc (Nat.le_refl _) _⟩

/-- what FindOf has found ahead of day j -/
def fnd (k wk D f j : Int) : Int :=
  if k = 1 then (if D < j then D else 0)
  else if k = 2 then (if 1 ≤ j - 1 - (f + (j - 1) + 3 - wk) % 7 then j - 1 - (f + (j - 1) + 3 - wk) % 7 else 0)
  else if D + (wk - (f + D + 3)) % 7 < j then D + (wk - (f + D + 3)) % 7 else 0
theorem fnd_start (k wk D f : Int) (hk : chk k wk D = 0) : fnd k wk D f 1 = 0 := by
  unfold chk at hk; unfold fnd; omega
theorem fnd_end (k wk D f L : Int) (hk : chk k wk D = 0) (h : 28 ≤ L) : fnd k wk D f (L + 1) = pickd k wk D L f := by
  unfold chk at hk; unfold fnd pickd
  have h3 : k = 1 ∨ k = 2 ∨ k = 3 := by omega
  rcases h3 with rfl | rfl | rfl
  · simp only [if_true]; omega
  · have e : L + 1 - 1 = L := by omega
    rw [e]
    simp only [Int.reduceEq, if_false, if_true]
    omega
  · simp only [Int.reduceEq, if_false]
    omega
theorem fnd_one (wk D f j : Int) (hk : chk 1 wk D = 0) (h : 1 ≤ j) : fnd 1 wk D f (j + 1) = if j = D then j else fnd 1 wk D f j := by
  unfold chk at hk; unfold fnd; simp only [if_true]; omega
theorem fnd_two (wk D f j : Int) (hk : chk 2 wk D = 0) (h : 1 ≤ j) : fnd 2 wk D f (j + 1) = if (f + j - 1 + 4) % 7 = wk then j else fnd 2 wk D f j := by
  unfold chk at hk; unfold fnd
  have e : j + 1 - 1 = j := by omega
  rw [e]
  simp only [Int.reduceEq, if_false, if_true]
  split <;> omega
theorem fnd_three (wk D f j : Int) (hk : chk 3 wk D = 0) (h : 1 ≤ j) : fnd 3 wk D f (j + 1) = if (f + j - 1 + 4) % 7 = wk ∧ D ≤ j ∧ fnd 3 wk D f j = 0 then j else fnd 3 wk D f j := by
  unfold chk at hk; unfold fnd
  simp only [Int.reduceEq, if_false]
  generalize hX : D + (wk - (f + D + 3)) % 7 = X
  have x1 : D ≤ X := by omega
  have x2 : X ≤ D + 6 := by omega
  have x3 : (f + X + 3) % 7 = wk := by omega
  have x0 : 1 ≤ D := by omega
  clear hX hk
  by_cases hw : (f + j - 1 + 4) % 7 = wk
  · simp only [hw, true_and]
    by_cases hD : D ≤ j
    · by_cases hj : X < j
      · have : ¬ X = 0 := by omega
        simp only [hj, if_true, this, and_false, if_false]; omega
      · have : X = j := by omega
        simp only [hj, if_false, hD, true_and, if_true]; omega
    · simp only [hD, false_and, if_false]; omega
  · simp only [hw, false_and, if_false]
    have : X ≠ j := fun e => hw (by rw [← e]; omega)
    omega
end Go.Proofs.YtbpdbggojgijiaaGreatDoor

/- The contract of the document's own answer FindOf. -/
namespace Go.Proofs.YtbpdbggojgijiaaGreatDoor
open Go Go.RowKit
set_option linter.unusedVariables false

/-- the three fields of a boxed day of a month -/
def Box (v : World) (b : Nat) (k wk D : Int) : Prop := v.cell? ⟨b, 0, none⟩ = some (.int .i64 k) ∧ v.cell? ⟨b, 1, none⟩ = some (.int .i64 wk) ∧ v.cell? ⟨b, 2, none⟩ = some (.int .i64 D)
theorem Box.on {w w' : World} {b : Nat} {k wk D : Int} (h : Box w b k wk D) (hb : Below w.heap.size w w') : Box w' b k wk D := by
  obtain ⟨h0, h1, h2⟩ := h
  refine ⟨?_, ?_, ?_⟩
  · rw [hb.cell (p := ⟨b, 0, none⟩) (cell_lt h0)]; exact h0
  · rw [hb.cell (p := ⟨b, 1, none⟩) (cell_lt h1)]; exact h1
  · rw [hb.cell (p := ⟨b, 2, none⟩) (cell_lt h2)]; exact h2

set_option maxHeartbeats 8000000 in
theorem FindOf_yes (y m k wk D : Int) (w : World) (hk : chk k wk D = 0) (hok : Cal.okB y m 1 = true) :
    Calls Tryz.prog 41 #[.int .i64 y, .int .i64 m, onV k wk D] w fun e w' => e = .returned (.tuple #[.int .i64 (pickd k wk D (Cal.ml y m) (Cal.num y m 1)), .int .i64 (if pickd k wk D (Cal.ml y m) (Cal.num y m 1) = 0 then 4 else 0)]) ∧ Below w.heap.size w w' := by
  obtain ⟨y1, y2, m1, m2, _, _⟩ := ok_of hok
  have hyr : Cal.yrB y = true := by unfold Cal.yrB; simp; omega
  have hmo : Cal.moB m = true := by unfold Cal.moB; simp; omega
  have hlb := Cal.ml_bd y m
  have hd : ∀ j, 1 ≤ j → j ≤ Cal.ml y m → daysR y m j = Cal.num y m 1 + j - 1 := by
    intro j h1 h2
    have : Cal.okB y m j = true := ok_mk (by omega)
    simp only [daysR, this, if_true, Cal.num]; omega
  have hb1 := daysR_bd y m 1
  have hb2 := daysR_bd y m (Cal.ml y m)
  rw [hd _ (by omega) (by omega)] at hb1 hb2
  have h3 : k = 1 ∨ k = 2 ∨ k = 3 := by unfold chk at hk; omega
  have hend := fnd_end k wk D (Cal.num y m 1) (Cal.ml y m) hk hlb.1
  have hst := fnd_start k wk D (Cal.num y m 1) hk
  generalize Cal.num y m 1 = F at *
  generalize hG : pickd k wk D (Cal.ml y m) F = G at *
  generalize hV : (if G = 0 then (4 : Int) else 0) = V
  have HV := hideH hV
  have HD := hideH hd
  have HE := hideH hend
  have HS := hideH hst
  have HK := hideH hk
  clear hG hV hd hend hst hk hok
  go_enter Tryz.func41, Tryz.ntmps41
  go_wp2_with fail
  refine (CheckOn_c _ _ _ _).mono ?_
  rintro e w1 ⟨rfl, hw1⟩
  rw [HK.out]
  have hbox : Box (w.alloc (.cells #[.int .i64 k, .int .i64 wk, .int .i64 D] 63)) w.heap.size k wk D := ⟨by go_simp, by go_simp, by go_simp⟩
  have HB1 : Hid (Box w1 w.heap.size k wk D) := hbox.on hw1
  have HW1 : Hid (Below w.heap.size w w1) := bel_box hw1
  clear hbox hw1
  go_wp2_with (first
    | (go_at_call 38; refine (IsYear_c _ _).mono ?_; rintro e w1 ⟨rfl, rfl⟩)
    | (go_at_call 39; refine (RisMonth_c _ _).mono ?_; rintro e w1 ⟨rfl, rfl⟩))
  go_loopw [9, 10] (fun n k' v => ∃ j : Int, 1 ≤ j ∧ j ≤ Cal.ml y m + 1 ∧ k' = .int .i64 j ∧ n = .int .i64 (fnd k wk D F j) ∧ Hid (Box v w.heap.size k wk D) ∧ Hid (Below w.heap.size w v)) (fun _ k' _ => (Cal.ml y m + 1 - intOf k').toNat)
  case atStart => exact ⟨1, by omega, by omega, rfl, by rw [HS.out], HB1, HW1⟩
  case round =>
    obtain ⟨j, hj1, hj2, rfl, rfl, HB, HW⟩ := hrel
    clear HB1 HW1
    by_cases hlt : j ≤ Cal.ml y m
    · go_wp2_with fail
      refine (monthDays_c _ _ _ (by omega) m1 m2).mono ?_
      rintro e w2 ⟨rfl, hw2⟩
      go_wp2_with fail
      refine (DaysOf_c _ _ _ _).mono ?_
      rintro e w3 ⟨rfl, hw3⟩
      rw [HD.out j hj1 hlt]
      have HW3 : Hid (Below w.heap.size w w3) := bthen (bthen HW.out hw2) hw3
      have HB3 : Hid (Box w3 w.heap.size k wk D) := (HB.out.on hw2).on hw3
      obtain ⟨c0, c1, c2⟩ := HB3.out
      clear HW HB hw2 hw3
      rcases h3 with rfl | rfl | rfl
      · have hf := fnd_one wk D F j HK.out hj1
        rcases beq_cases j D with ⟨q1, q2⟩ | ⟨q1, q2⟩
        · rw [if_pos q2] at hf
          have HF := hideH hf
          clear hf q2
          go_wp2_with fail
          exact ⟨⟨j + 1, by omega, by omega, rfl, by rw [HF.out], HB3, HW3⟩, by simp [intOf]; omega⟩
        · rw [if_neg q2] at hf
          have HF := hideH hf
          clear hf q2
          go_wp2_with fail
          exact ⟨⟨j + 1, by omega, by omega, rfl, by rw [HF.out], HB3, HW3⟩, by simp [intOf]; omega⟩
      · have hf := fnd_two wk D F j HK.out hj1
        rcases beq_cases ((F + j - 1 + 4) % 7) wk with ⟨q1, q2⟩ | ⟨q1, q2⟩
        · rw [if_pos q2] at hf
          have HF := hideH hf
          clear hf q2
          go_wp2_with fail
          go_quiet ((go_at_call 69; exact Calls.quiet_of_same (WeekOf_c _ _ (by omega) (by omega))))
          go_wp2_with fail
          exact ⟨⟨j + 1, by omega, by omega, rfl, by rw [HF.out], HB3, below_drewN HW3.out _⟩, by simp [intOf]; omega⟩
        · rw [if_neg q2] at hf
          have HF := hideH hf
          clear hf q2
          go_wp2_with fail
          go_quiet ((go_at_call 69; exact Calls.quiet_of_same (WeekOf_c _ _ (by omega) (by omega))))
          go_wp2_with fail
          exact ⟨⟨j + 1, by omega, by omega, rfl, by rw [HF.out], HB3, below_drewN HW3.out _⟩, by simp [intOf]; omega⟩
      · have hf := fnd_three wk D F j HK.out hj1
        rcases beq_cases ((F + j - 1 + 4) % 7) wk with ⟨q1, q2⟩ | ⟨q1, q2⟩
        · by_cases hDj : D ≤ j
          · rcases beq_cases (fnd 3 wk D F j) 0 with ⟨z1, z2⟩ | ⟨z1, z2⟩
            · rw [if_pos ⟨q2, hDj, z2⟩] at hf
              have HF := hideH hf
              clear hf q2 z2
              go_wp2_with fail
              go_quiet ((go_at_call 69; exact Calls.quiet_of_same (WeekOf_c _ _ (by omega) (by omega))))
              go_wp2_with fail
              exact ⟨⟨j + 1, by omega, by omega, rfl, by rw [HF.out], HB3, below_drewN HW3.out _⟩, by simp [intOf]; omega⟩
            · rw [if_neg (fun h => z2 h.2.2)] at hf
              have HF := hideH hf
              clear hf q2 z2
              go_wp2_with fail
              go_quiet ((go_at_call 69; exact Calls.quiet_of_same (WeekOf_c _ _ (by omega) (by omega))))
              go_wp2_with fail
              exact ⟨⟨j + 1, by omega, by omega, rfl, by rw [HF.out], HB3, below_drewN HW3.out _⟩, by simp [intOf]; omega⟩
          · rw [if_neg (fun h => hDj h.2.1)] at hf
            have HF := hideH hf
            have hdec : decide (D ≤ j) = false := by simpa using hDj
            clear hf q2 hDj
            go_wp2_with fail
            go_quiet ((go_at_call 69; exact Calls.quiet_of_same (WeekOf_c _ _ (by omega) (by omega))))
            go_wp2_with fail
            exact ⟨⟨j + 1, by omega, by omega, rfl, by rw [HF.out], HB3, below_drewN HW3.out _⟩, by simp [intOf]; omega⟩
        · rw [if_neg (fun h => q2 h.1)] at hf
          have HF := hideH hf
          clear hf q2
          go_wp2_with fail
          go_quiet ((go_at_call 69; exact Calls.quiet_of_same (WeekOf_c _ _ (by omega) (by omega))))
          go_wp2_with fail
          exact ⟨⟨j + 1, by omega, by omega, rfl, by rw [HF.out], HB3, below_drewN HW3.out _⟩, by simp [intOf]; omega⟩
    · have hj : j = Cal.ml y m + 1 := by omega
      have HJ := hideH hj
      clear hj
      rcases beq_cases G 0 with ⟨g1, g2⟩ | ⟨g1, g2⟩
      · have G2 := hideH g2
        go_wp2_with fail
        refine (monthDays_c _ _ _ (by omega) m1 m2).mono ?_
        rintro e w2 ⟨rfl, hw2⟩
        rw [HJ.out, HE.out]
        clear g2
        go_wp2_with fail
        go_ret2
        exact ⟨ret_ii G2.out.symm (by rw [← HV.out, if_pos G2.out]), bthen HW.out hw2⟩
      · have G2 := hideH g2
        go_wp2_with fail
        refine (monthDays_c _ _ _ (by omega) m1 m2).mono ?_
        rintro e w2 ⟨rfl, hw2⟩
        rw [HJ.out, HE.out]
        clear g2
        go_wp2_with fail
        go_ret2
        exact ⟨ret_ii rfl (by rw [← HV.out, if_neg G2.out]), bthen HW.out hw2⟩
end Go.Proofs.YtbpdbggojgijiaaGreatDoor

/- FindOf whatever it is handed; the statements' own pickBegun and choose. -/
namespace Go.Proofs.YtbpdbggojgijiaaGreatDoor
open Go Go.RowKit
set_option linter.unusedVariables false

theorem FindOf_c (y m k wk D : Int) (w : World) :
    Calls Tryz.prog 41 #[.int .i64 y, .int .i64 m, onV k wk D] w fun e w' => e = .returned (.tuple #[.int .i64 (findR y m k wk D), .int .i64 (findE y m k wk D)]) ∧ Below w.heap.size w w' := by
  rcases beq_cases (chk k wk D) 0 with ⟨hk, hk'⟩ | ⟨hk, hk'⟩
  · cases hok : Cal.okB y m 1
    · have e1 : findR y m k wk D = 0 := by simp [findR, hok]
      have e2 : findE y m k wk D = 3 := by simp [findE, hok, hk']
      rw [e1, e2]
      have hym : Cal.yrB y = false ∨ (Cal.yrB y = true ∧ Cal.moB m = false) := by
        cases h1 : Cal.yrB y
        · exact .inl rfl
        · cases h2 : Cal.moB m
          · exact .inr ⟨rfl, rfl⟩
          · have := Cal.ml_bd y m
            have a := yr_of h1
            have b := mo_of h2
            rw [ok_mk (y := y) (m := m) (d := 1) (by omega)] at hok
            cases hok
      clear e1 e2 hok hk
      rcases hym with h1 | ⟨h1, h2⟩
      all_goals
        go_enter Tryz.func41, Tryz.ntmps41
        go_wp2_with fail
        refine (CheckOn_c _ _ _ _).mono ?_
        rintro e w1 ⟨rfl, hw1⟩
        have HW := hideH (bel_box hw1)
        clear hw1
        go_wp2_with (first
          | (go_at_call 38; refine (IsYear_c _ _).mono ?_; rintro e w1 ⟨rfl, rfl⟩)
          | (go_at_call 39; refine (RisMonth_c _ _).mono ?_; rintro e w1 ⟨rfl, rfl⟩))
        go_ret2
        exact ⟨rfl, HW.out⟩
    · have e1 : findR y m k wk D = pickd k wk D (Cal.ml y m) (Cal.num y m 1) := by simp [findR, hok, hk']
      have e2 : findE y m k wk D = if pickd k wk D (Cal.ml y m) (Cal.num y m 1) = 0 then 4 else 0 := by simp [findE, hok, hk']
      rw [e1, e2]
      exact FindOf_yes y m k wk D w hk' hok
  · have e1 : findR y m k wk D = 0 := by simp [findR, hk']
    have e2 : findE y m k wk D = chk k wk D := by simp [findE, hk']
    rw [e1, e2]
    have hne : (chk k wk D != 0) = true := by rw [bne_iff_ne]; exact hk'
    clear e1 e2 hk'
    go_enter Tryz.func41, Tryz.ntmps41
    go_wp2_with fail
    refine (CheckOn_c _ _ _ _).mono ?_
    rintro e w1 ⟨rfl, hw1⟩
    have HW := hideH (bel_box hw1)
    clear hw1
    go_wp2_with fail
    go_ret2
    exact ⟨rfl, HW.out⟩

/-- which of n things a raw number speaks of -/
def cho (c n : Int) : Int := if c < 0 then (-(c + 1)) % n else c % n
theorem cho_bd (c n : Int) (hn : 0 < n) : 0 ≤ cho c n ∧ cho c n < n := by
  unfold cho
  have h1 := Int.emod_nonneg (-(c + 1)) (show n ≠ 0 by omega)
  have h2 := Int.emod_lt_of_pos (-(c + 1)) hn
  have h3 := Int.emod_nonneg c (show n ≠ 0 by omega)
  have h4 := Int.emod_lt_of_pos c hn
  split <;> constructor <;> assumption
end Go.Proofs.YtbpdbggojgijiaaGreatDoor

/- The contract of the document's own answer FindOf. -/
import Derived.Test.YtlmhapbmebnmlabDoorPickR
namespace Go.Proofs.YtlmhapbmebnmlabDoor
open Go Go.RowKit
set_option linter.unusedVariables false

/-- the three fields of a boxed day of a month -/
def Box (v : World) (b : Nat) (k wk D : Int) : Prop := v.cell? ⟨b, 0, none⟩ = some (.int .i64 k) ∧ v.cell? ⟨b, 1, none⟩ = some (.int .i64 wk) ∧ v.cell? ⟨b, 2, none⟩ = some (.int .i64 D)
theorem Box.on {w w' : World} {b : Nat} {k wk D : Int} (h : Box w b k wk D) (hb : Below w.heap.size w w') : Box w' b k wk D := by
  obtain ⟨h0, h1, h2⟩ := h
  refine ⟨?_, ?_, ?_⟩
  · rw [hb.cell (p := ⟨b, 0, none⟩) (cell_lt h0)]; exact h0
  · rw [hb.cell (p := ⟨b, 1, none⟩) (cell_lt h1)]; exact h1
  · rw [hb.cell (p := ⟨b, 2, none⟩) (cell_lt h2)]; exact h2

set_option maxHeartbeats 8000000 in
theorem FindOf_yes (y m k wk D : Int) (w : World) (hk : chk k wk D = 0) (hok : Cal.okB y m 1 = true) :
    Calls Tryd.prog 29 #[.int .i64 y, .int .i64 m, onV k wk D] w fun e w' => e = .returned (.tuple #[.int .i64 (pickd k wk D (Cal.ml y m) (Cal.num y m 1)), .int .i64 (if pickd k wk D (Cal.ml y m) (Cal.num y m 1) = 0 then 4 else 0)]) ∧ Below w.heap.size w w' := by
  obtain ⟨y1, y2, m1, m2, _, _⟩ := ok_of hok
  have hyr : Cal.yrB y = true := by unfold Cal.yrB; simp; omega
  have hmo : Cal.moB m = true := by unfold Cal.moB; simp; omega
  have hlb := Cal.ml_bd y m
  have hd : ∀ j, 1 ≤ j → j ≤ Cal.ml y m → daysR y m j = Cal.num y m 1 + j - 1 := by
    intro j h1 h2
    have : Cal.okB y m j = true := ok_mk (by omega)
    simp only [daysR, this, if_true, Cal.num]; omega
  have hb1 := daysR_bd y m 1
  have hb2 := daysR_bd y m (Cal.ml y m)
  rw [hd _ (by omega) (by omega)] at hb1 hb2
  have h3 : k = 1 ∨ k = 2 ∨ k = 3 := by unfold chk at hk; omega
  have hend := fnd_end k wk D (Cal.num y m 1) (Cal.ml y m) hk hlb.1
  have hst := fnd_start k wk D (Cal.num y m 1) hk
  generalize Cal.num y m 1 = F at *
  generalize hG : pickd k wk D (Cal.ml y m) F = G at *
  generalize hV : (if G = 0 then (4 : Int) else 0) = V
  have HV := hideH hV
  have HD := hideH hd
  have HE := hideH hend
  have HS := hideH hst
  have HK := hideH hk
  clear hG hV hd hend hst hk hok
  go_enter Tryd.func29, Tryd.ntmps29
  go_wp2_with fail
  refine (CheckOn_c _ _ _ _).mono ?_
  rintro e w1 ⟨rfl, hw1⟩
  rw [HK.out]
  have hbox : Box (w.alloc (.cells #[.int .i64 k, .int .i64 wk, .int .i64 D] 23)) w.heap.size k wk D := ⟨by go_simp, by go_simp, by go_simp⟩
  have HB1 : Hid (Box w1 w.heap.size k wk D) := hbox.on hw1
  have HW1 : Hid (Below w.heap.size w w1) := bel_box hw1
  clear hbox hw1
  go_wp2_with (first
    | (go_at_call 25; refine (IsYear_c _ _).mono ?_; rintro e w1 ⟨rfl, rfl⟩)
    | (go_at_call 26; refine (RisMonth_c _ _).mono ?_; rintro e w1 ⟨rfl, rfl⟩))
  go_loopw [9, 10] (fun n k' v => ∃ j : Int, 1 ≤ j ∧ j ≤ Cal.ml y m + 1 ∧ k' = .int .i64 j ∧ n = .int .i64 (fnd k wk D F j) ∧ Hid (Box v w.heap.size k wk D) ∧ Hid (Below w.heap.size w v)) (fun _ k' _ => (Cal.ml y m + 1 - intOf k').toNat)
  case atStart => exact ⟨1, by omega, by omega, rfl, by rw [HS.out], HB1, HW1⟩
  case round =>
    obtain ⟨j, hj1, hj2, rfl, rfl, HB, HW⟩ := hrel
    clear HB1 HW1
    by_cases hlt : j ≤ Cal.ml y m
    · go_wp2_with fail
      refine (monthDays_c _ _ _ (by omega) m1 m2).mono ?_
      rintro e w2 ⟨rfl, hw2⟩
      go_wp2_with fail
      refine (DaysOf_c _ _ _ _).mono ?_
      rintro e w3 ⟨rfl, hw3⟩
      rw [HD.out j hj1 hlt]
      have HW3 : Hid (Below w.heap.size w w3) := bthen (bthen HW.out hw2) hw3
      have HB3 : Hid (Box w3 w.heap.size k wk D) := (HB.out.on hw2).on hw3
      obtain ⟨c0, c1, c2⟩ := HB3.out
      clear HW HB hw2 hw3
      rcases h3 with rfl | rfl | rfl
      · have hf := fnd_one wk D F j HK.out hj1
        rcases beq_cases j D with ⟨q1, q2⟩ | ⟨q1, q2⟩
        · rw [if_pos q2] at hf
          have HF := hideH hf
          clear hf q2
          go_wp2_with fail
          exact ⟨⟨j + 1, by omega, by omega, rfl, by rw [HF.out], HB3, HW3⟩, by simp [intOf]; omega⟩
        · rw [if_neg q2] at hf
          have HF := hideH hf
          clear hf q2
          go_wp2_with fail
          exact ⟨⟨j + 1, by omega, by omega, rfl, by rw [HF.out], HB3, HW3⟩, by simp [intOf]; omega⟩
      · have hf := fnd_two wk D F j HK.out hj1
        rcases beq_cases ((F + j - 1 + 4) % 7) wk with ⟨q1, q2⟩ | ⟨q1, q2⟩
        · rw [if_pos q2] at hf
          have HF := hideH hf
          clear hf q2
          go_wp2_with fail
          go_quiet ((go_at_call 43; exact Calls.quiet_of_same (WeekOf_c _ _ (by omega) (by omega))))
          go_wp2_with fail
          exact ⟨⟨j + 1, by omega, by omega, rfl, by rw [HF.out], HB3, below_drewN HW3.out _⟩, by simp [intOf]; omega⟩
        · rw [if_neg q2] at hf
          have HF := hideH hf
          clear hf q2
          go_wp2_with fail
          go_quiet ((go_at_call 43; exact Calls.quiet_of_same (WeekOf_c _ _ (by omega) (by omega))))
          go_wp2_with fail
          exact ⟨⟨j + 1, by omega, by omega, rfl, by rw [HF.out], HB3, below_drewN HW3.out _⟩, by simp [intOf]; omega⟩
      · have hf := fnd_three wk D F j HK.out hj1
        rcases beq_cases ((F + j - 1 + 4) % 7) wk with ⟨q1, q2⟩ | ⟨q1, q2⟩
        · by_cases hDj : D ≤ j
          · rcases beq_cases (fnd 3 wk D F j) 0 with ⟨z1, z2⟩ | ⟨z1, z2⟩
            · rw [if_pos ⟨q2, hDj, z2⟩] at hf
              have HF := hideH hf
              clear hf q2 z2
              go_wp2_with fail
              go_quiet ((go_at_call 43; exact Calls.quiet_of_same (WeekOf_c _ _ (by omega) (by omega))))
              go_wp2_with fail
              exact ⟨⟨j + 1, by omega, by omega, rfl, by rw [HF.out], HB3, below_drewN HW3.out _⟩, by simp [intOf]; omega⟩
            · rw [if_neg (fun h => z2 h.2.2)] at hf
              have HF := hideH hf
              clear hf q2 z2
              go_wp2_with fail
              go_quiet ((go_at_call 43; exact Calls.quiet_of_same (WeekOf_c _ _ (by omega) (by omega))))
              go_wp2_with fail
              exact ⟨⟨j + 1, by omega, by omega, rfl, by rw [HF.out], HB3, below_drewN HW3.out _⟩, by simp [intOf]; omega⟩
          · rw [if_neg (fun h => hDj h.2.1)] at hf
            have HF := hideH hf
            have hdec : decide (D ≤ j) = false := by simpa using hDj
            clear hf q2 hDj
            go_wp2_with fail
            go_quiet ((go_at_call 43; exact Calls.quiet_of_same (WeekOf_c _ _ (by omega) (by omega))))
            go_wp2_with fail
            exact ⟨⟨j + 1, by omega, by omega, rfl, by rw [HF.out], HB3, below_drewN HW3.out _⟩, by simp [intOf]; omega⟩
        · rw [if_neg (fun h => q2 h.1)] at hf
          have HF := hideH hf
          clear hf q2
          go_wp2_with fail
          go_quiet ((go_at_call 43; exact Calls.quiet_of_same (WeekOf_c _ _ (by omega) (by omega))))
          go_wp2_with fail
          exact ⟨⟨j + 1, by omega, by omega, rfl, by rw [HF.out], HB3, below_drewN HW3.out _⟩, by simp [intOf]; omega⟩
    · have hj : j = Cal.ml y m + 1 := by omega
      have HJ := hideH hj
      clear hj
      rcases beq_cases G 0 with ⟨g1, g2⟩ | ⟨g1, g2⟩
      · have G2 := hideH g2
        go_wp2_with fail
        refine (monthDays_c _ _ _ (by omega) m1 m2).mono ?_
        rintro e w2 ⟨rfl, hw2⟩
        rw [HJ.out, HE.out]
        clear g2
        go_wp2_with fail
        go_ret2
        exact ⟨ret_ii G2.out.symm (by rw [← HV.out, if_pos G2.out]), bthen HW.out hw2⟩
      · have G2 := hideH g2
        go_wp2_with fail
        refine (monthDays_c _ _ _ (by omega) m1 m2).mono ?_
        rintro e w2 ⟨rfl, hw2⟩
        rw [HJ.out, HE.out]
        clear g2
        go_wp2_with fail
        go_ret2
        exact ⟨ret_ii rfl (by rw [← HV.out, if_neg G2.out]), bthen HW.out hw2⟩
end Go.Proofs.YtlmhapbmebnmlabDoor

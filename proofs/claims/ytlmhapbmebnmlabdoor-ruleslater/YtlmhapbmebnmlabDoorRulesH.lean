/- Contracts of the document's own answers on rules: CheckRule, begins, AtOf. -/
import Derived.Test.YtlmhapbmebnmlabDoorRulesG
namespace Go.Proofs.YtlmhapbmebnmlabDoor
open Go Go.RowKit
set_option linter.unusedVariables false

set_option maxHeartbeats 8000000 in
theorem CheckRule_c (r : Rl) (w : World) (hs : r.s.size ≤ maxLen) : Calls Tryd.prog 11 #[r.v] w fun e w' => e = .returned (.int .i64 (rchk r)) ∧ Below w.heap.size w w' := by
  have hc := rchk_cases r
  rcases hc with ⟨b1, rc⟩ | ⟨b1, hc⟩
  · rw [rc]; exact CheckRule_no r w b1
  · obtain ⟨g1, g2, g3, g4, g5, g6⟩ : Cal.yrB r.f = true ∧ Cal.yrB r.t = true ∧ r.f ≤ r.t ∧ Cal.moB r.m = true ∧ inB r.a 0 86400 = true ∧ inB r.sv 0 7200 = true := by
      rcases bnd_cases r with ⟨_, h⟩ | ⟨h, _⟩
      · exact h
      · rw [b1] at h; cases h
    have HS := hideH hs
    have hs' := hs
    unfold maxLen at hs'
    have hyi := hideH (yrs_iff r)
    have hbd := bnd_of b1
    have h4 : chk r.k r.wk r.D = 0 → ∀ y, r.f ≤ y → y ≤ r.t → findE y r.m r.k r.wk r.D ≠ 0 → findE y r.m r.k r.wk r.D = 4 := by
      intro hk y h1 h2 h3
      exact find_four y _ _ _ _ (by omega) (by omega) (by omega) (by omega) hk h3
    have H4 := hideH h4
    clear h4 b1 hs
    generalize rchk r = RC at *
    have hbx := hideH (rbox_new w r)
    have H0 : Hid (Below w.heap.size w (w.alloc (.cells r.cs 25))) := (Below.refl _ _).alloc (Nat.le_refl _) _
    go_enter Tryd.func11, Tryd.ntmps11
    go_wp2_with (first
      | (go_at_call 25; refine (IsYear_c _ _).mono ?_; intro e w'; rintro ⟨rfl, hw⟩; subst hw)
      | (go_at_call 26; refine (RisMonth_c _ _).mono ?_; intro e w'; rintro ⟨rfl, hw⟩; subst hw)
      | (go_at_call 17; refine (within_c _ _ _ _).mono ?_; intro e w'; rintro ⟨rfl, hw⟩; subst hw))
    refine (CheckOn_c _ _ _ _).mono ?_
    rintro e w2 ⟨rfl, hw2⟩
    have H2 := hideH (bthen H0.out hw2)
    have B2 : Hid (RBox w2 w.heap.size r) := hbx.out.on hw2
    clear hw2 hbx H0
    rcases hc with ⟨k1, rc⟩ | ⟨k1, hc⟩
    · have RCH := hideH rc
      have hne : (chk r.k r.wk r.D != 0) = true := by rw [bne_iff_ne]; exact k1
      clear rc hyi H4 k1
      go_wp2_with fail
      go_ret
      exact ⟨ret_int RCH.out.symm, H2.out⟩
    · rw [k1]
      have CK := hideH k1
      clear k1
      obtain ⟨c0, c1, c2, c3, c4, c5, c6, c7, c8⟩ := B2.out
      have hl : (12 < r.s.size ∧ letS r.s = false) ∨ (r.s.size ≤ 12 ∧ letS r.s = allLet r.s.data.toList) := by
        by_cases h : r.s.size ≤ 12
        · exact .inr ⟨h, by simp [letS, h]⟩
        · exact .inl ⟨by omega, by simp [letS, h]⟩
      rcases hl with ⟨l1, l2⟩ | ⟨l1, l2⟩
      · have RCH : Hid (RC = 5) := by
          rcases hc with ⟨_, h⟩ | ⟨h, _⟩
          · exact h
          · rw [l2] at h; cases h
        clear hc hyi H4 l2
        go_wp2_with fail
        go_ret
        exact ⟨ret_int RCH.out.symm, H2.out⟩
      · rw [l2] at hc
        clear l2
        rcases hc with ⟨k1, rc⟩ | ⟨k1, hc⟩
        · have RCH := hideH rc
          clear rc hyi H4
          go_wp2_with (go_at_call 28; refine (letters_c _ _ HS.out).mono ?_; intro e w'; rintro ⟨rfl, hw⟩; subst hw)
          go_ret
          exact ⟨ret_int RCH.out.symm, H2.out⟩
        · have HC := hideH hc
          clear hc
          go_wp2_with (go_at_call 28; refine (letters_c _ _ HS.out).mono ?_; intro e w'; rintro ⟨rfl, hw⟩; subst hw)
          clear c0 c1 c2 c3 c4 c5 c6 c7 c8 k1
          go_loopw [4] (fun n v => ∃ j : Int, r.f ≤ j ∧ j ≤ r.t + 1 ∧ n = .int .i64 j ∧ Hid (∀ y, r.f ≤ y → y < j → findE y r.m r.k r.wk r.D = 0) ∧ Hid (RBox v w.heap.size r) ∧ Hid (Below w.heap.size w v)) (fun n _ => (r.t + 1 - intOf n).toNat)
          case atStart => exact ⟨r.f, by omega, by omega, rfl, fun y h1 h2 => by omega, B2, H2⟩
          case round =>
            obtain ⟨j, hj1, hj2, rfl, HA, HB, HW⟩ := hrel
            obtain ⟨c0, c1, c2, c3, c4, c5, c6, c7, c8⟩ := HB.out
            clear B2 H2
            by_cases hlt : j ≤ r.t
            · go_wp2_with fail
              refine (FindOf_c _ _ _ _ _ _).mono ?_
              rintro e w3 ⟨rfl, hw3⟩
              have H3 := hideH (bthen HW.out hw3)
              have B3 := hideH (HB.out.on hw3)
              clear hw3 c0 c1 c2 c3 c4 c5 c6 c7 c8 HB HW
              rcases beq_cases (findE j r.m r.k r.wk r.D) 0 with ⟨q1, q2⟩ | ⟨q1, q2⟩
              · have Q2 := hideH q2
                rw [q2]
                clear q1 q2
                go_wp2_with fail
                exact ⟨⟨j + 1, by omega, by omega, rfl, fun y h1 h2 => by
                  by_cases hy : y = j
                  · rw [hy]; exact Q2.out
                  · exact HA.out y h1 (by omega), B3, H3⟩, by simp [intOf]; omega⟩
              · have q3 := H4.out CK.out j hj1 hlt q2
                have hno : yrsOK r = false := by
                  cases hy : yrsOK r
                  · rfl
                  · exact absurd ((hyi.out.1 hy) j hj1 hlt) q2
                have hrc : RC = 4 := by
                  rcases HC.out with ⟨_, h⟩ | ⟨h, _⟩
                  · exact h
                  · rw [hno] at h; cases h
                rw [q3]
                have RCH := hideH hrc
                clear q1 q2 q3 hno hrc HC hyi H4
                go_wp2_with fail
                go_ret
                exact ⟨ret_int RCH.out.symm, H3.out⟩
            · have hall : yrsOK r = true := hyi.out.2 (fun y h1 h2 => HA.out y h1 (by omega))
              have hrc : RC = 0 := by
                rcases HC.out with ⟨h, _⟩ | ⟨_, h⟩
                · rw [hall] at h; cases h
                · exact h
              have RCH := hideH hrc
              clear hall hrc HC hyi H4
              go_wp2_with fail
              go_ret
              exact ⟨ret_int RCH.out.symm, HW.out⟩

set_option maxHeartbeats 1000000 in
theorem begins_c (r : Rl) (y std : Int) (w : World) (h1 : 0 ≤ r.a) (h2 : r.a ≤ 86400) (h3 : -50400 ≤ std) (h4 : std ≤ 50400) :
    Calls Tryd.prog 19 #[r.v, .int .i64 y, .int .i64 std] w fun e w' => e = .returned (.int .i64 (begR r y std)) ∧ Below w.heap.size w w' := by
  have hbx := hideH (rbox_new w r)
  have H0 : Hid (Below w.heap.size w (w.alloc (.cells r.cs 25))) := (Below.refl _ _).alloc (Nat.le_refl _) _
  have hd := daysR_bd y r.m (findR y r.m r.k r.wk r.D)
  go_enter Tryd.func19, Tryd.ntmps19
  go_wp2_with fail
  refine (FindOf_c _ _ _ _ _ _).mono ?_
  rintro e w1 ⟨rfl, hw1⟩
  have H1 : Hid (Below w.heap.size w w1) := bthen H0.out hw1
  have B1 : Hid (RBox w1 w.heap.size r) := hbx.out.on hw1
  clear hw1 hbx H0
  obtain ⟨c0, c1, c2, c3, c4, c5, c6, c7, c8⟩ := B1.out
  go_wp2_with fail
  refine (DaysOf_c _ _ _ _).mono ?_
  rintro e w2 ⟨rfl, hw2⟩
  have H2 : Hid (Below w.heap.size w w2) := bthen H1.out hw2
  have B2 : Hid (RBox w2 w.heap.size r) := B1.out.on hw2
  clear hw2 B1 H1 c0 c1 c2 c3 c4 c5 c6 c7 c8
  obtain ⟨c0, c1, c2, c3, c4, c5, c6, c7, c8⟩ := B2.out
  go_wp2_with fail
  go_ret
  exact ⟨rfl, H2.out⟩

theorem RisStd_c (y : Int) (w : World) : Calls Tryd.prog 18 #[.int .i64 y] w fun e w' => e = .returned (.bool (inB y (-50400) 50400)) ∧ w' = w := by
  go_enter Tryd.func18, Tryd.ntmps18
  go_wp2_with (go_at_call 17; refine (within_c _ _ _ _).mono ?_; rintro e w' ⟨rfl, rfl⟩)
  go_ret
  exact ⟨rfl, rfl⟩
theorem isTime_c (y : Int) (w : World) : Calls Tryd.prog 31 #[.int .i64 y] w fun e w' => e = .returned (.bool (inB y 0 1893455999)) ∧ w' = w := by
  go_enter Tryd.func31, Tryd.ntmps31
  go_wp2_with (go_at_call 17; refine (within_c _ _ _ _).mono ?_; rintro e w' ⟨rfl, rfl⟩)
  go_ret
  exact ⟨rfl, rfl⟩

set_option maxHeartbeats 2000000 in
theorem AtOf_c (r : Rl) (y std : Int) (w : World) (hs : r.s.size ≤ maxLen) :
    Calls Tryd.prog 8 #[r.v, .int .i64 y, .int .i64 std] w fun e w' => e = .returned (.tuple #[.int .i64 (atR r y std), .int .i64 (atE r y std)]) ∧ Below w.heap.size w w' := by
  have hbx := hideH (rbox_new w r)
  have H0 : Hid (Below w.heap.size w (w.alloc (.cells r.cs 25))) := (Below.refl _ _).alloc (Nat.le_refl _) _
  have HS := hideH hs
  clear hs
  rcases beq_cases (rchk r) 0 with ⟨k1, k2⟩ | ⟨k1, k2⟩
  · have hbd := bnd_of (rchk_bnd k2)
    have hcase : (atOK r y std = false ∧ (inB y r.f r.t = false ∨ (inB y r.f r.t = true ∧ inB std (-50400) 50400 = false))) ∨ (atOK r y std = true ∧ inB y r.f r.t = true ∧ inB std (-50400) 50400 = true) := by
      unfold atOK
      have e : decide (r.f ≤ y ∧ y ≤ r.t) = inB y r.f r.t := rfl
      rw [e]
      cases inB y r.f r.t <;> cases inB std (-50400) 50400 <;> simp
    rcases hcase with ⟨a1, a2⟩ | ⟨a1, a2, a3⟩
    · have e1 : atR r y std = 0 := by simp [atR, a1]
      have e2 : atE r y std = 3 := by simp [atE, a1, k2]
      rw [e1, e2]
      clear e1 e2 a1 k1
      rcases a2 with b1 | ⟨b1, b2⟩
      all_goals
        go_enter Tryd.func8, Tryd.ntmps8
        go_wp2_with fail
        refine (CheckRule_c r _ HS.out).mono ?_
        rintro e w1 ⟨rfl, hw1⟩
        have H1 : Hid (Below w.heap.size w w1) := bthen H0.out hw1
        have B1 : Hid (RBox w1 w.heap.size r) := hbx.out.on hw1
        clear hw1
        rw [k2]
        obtain ⟨c0, c1, c2, c3, c4, c5, c6, c7, c8⟩ := B1.out
        go_wp2_with (first
          | (go_at_call 17; refine (within_c _ _ _ _).mono ?_; intro e w'; rintro ⟨rfl, hw⟩; subst hw)
          | (go_at_call 18; refine (RisStd_c _ _).mono ?_; intro e w'; rintro ⟨rfl, hw⟩; subst hw))
        go_ret2
        exact ⟨rfl, H1.out⟩
    · have e1 : atR r y std = begR r y std := by simp [atR, a1, k2]
      have e2 : atE r y std = 0 := by simp [atE, a1, k2]
      have a5 := in_of a3
      rw [e1, e2]
      clear e1 e2 a1 k1
      go_enter Tryd.func8, Tryd.ntmps8
      go_wp2_with fail
      refine (CheckRule_c r _ HS.out).mono ?_
      rintro e w1 ⟨rfl, hw1⟩
      have H1 : Hid (Below w.heap.size w w1) := bthen H0.out hw1
      have B1 : Hid (RBox w1 w.heap.size r) := hbx.out.on hw1
      clear hw1
      rw [k2]
      obtain ⟨c0, c1, c2, c3, c4, c5, c6, c7, c8⟩ := B1.out
      go_wp2_with (first
        | (go_at_call 17; refine (within_c _ _ _ _).mono ?_; intro e w'; rintro ⟨rfl, hw⟩; subst hw)
        | (go_at_call 18; refine (RisStd_c _ _).mono ?_; intro e w'; rintro ⟨rfl, hw⟩; subst hw))
      refine (begins_c r y std _ (by omega) (by omega) a5.1 a5.2).mono ?_
      rintro e w2 ⟨rfl, hw2⟩
      go_wp2_with fail
      go_ret2
      exact ⟨rfl, bthen H1.out hw2⟩
  · have e1 : atR r y std = 0 := by simp [atR, k2]
    have e2 : atE r y std = rchk r := by simp [atE, k2]
    rw [e1, e2]
    have hne : (rchk r != 0) = true := by rw [bne_iff_ne]; exact k2
    clear e1 e2 k2
    go_enter Tryd.func8, Tryd.ntmps8
    go_wp2_with fail
    refine (CheckRule_c r _ HS.out).mono ?_
    rintro e w1 ⟨rfl, hw1⟩
    have H1 : Hid (Below w.heap.size w w1) := bthen H0.out hw1
    clear hw1
    go_wp2_with fail
    go_ret2
    exact ⟨rfl, H1.out⟩
end Go.Proofs.YtlmhapbmebnmlabDoor

/- The walk of the statement PickTrue: it returns true, and nothing that lay in memory has turned. -/
import Derived.Test.YtlmhapbmebnmlaaDoorPickT
namespace Go.Proofs.YtlmhapbmebnmlaaDoor
open Go Go.RowKit
set_option linter.unusedVariables false

/-- what is known where a day is found -/
theorem find_spec (y m k wk D : Int) (h : findE y m k wk D = 0) :
    ∃ F L P : Int, findR y m k wk D = P ∧ 28 ≤ L ∧ L ≤ 31 ∧ 0 ≤ F ∧ F + L - 1 < 21915 ∧ 1 ≤ P ∧ P ≤ L ∧ (k = 1 ∧ P = D ∨ k = 2 ∧ (F + P + 3) % 7 = wk ∧ (∀ i, 1 ≤ i → i ≤ L → (F + i + 3) % 7 = wk → i ≤ P) ∧ P = L - (F + L + 3 - wk) % 7 ∨ k = 3 ∧ (F + P + 3) % 7 = wk ∧ (∀ i, D ≤ i → i < P → (F + i + 3) % 7 ≠ wk) ∧ D ≤ P ∧ P ≤ D + 6)
      ∧ (∀ i, 1 ≤ i → i ≤ L → daysE y m i = 0 ∧ daysR y m i = F + i - 1 ∧ weekE (F + i - 1) = 0 ∧ weekR (F + i - 1) = (F + i + 3) % 7) ∧ (∀ i, L < i → daysE y m i = 3) := by
  have hc : chk k wk D = 0 := by
    by_cases hc : chk k wk D = 0
    · exact hc
    · simp only [findE, hc, if_false] at h
  have hok : Cal.okB y m 1 = true := by
    cases hok : Cal.okB y m 1
    · simp [findE, hc, hok] at h
    · rfl
  have hP : pickd k wk D (Cal.ml y m) (Cal.num y m 1) ≠ 0 := by
    intro e
    simp [findE, hc, hok, e] at h
  have hR : findR y m k wk D = pickd k wk D (Cal.ml y m) (Cal.num y m 1) := by simp [findR, hok, hc]
  obtain ⟨y1, y2, m1, m2, _, _⟩ := ok_of hok
  have hlb := Cal.ml_bd y m
  have hd : ∀ j, 1 ≤ j → j ≤ Cal.ml y m → daysE y m j = 0 ∧ daysR y m j = Cal.num y m 1 + j - 1 := by
    intro j h1 h2
    have : Cal.okB y m j = true := ok_mk (by omega)
    exact ⟨by simp [daysE, this], by simp only [daysR, this, if_true, Cal.num]; omega⟩
  have hn : ∀ j, Cal.ml y m < j → daysE y m j = 3 := by
    intro j h1
    have : Cal.okB y m j = false := ok_not (by omega)
    simp [daysE, this]
  have hb1 := daysR_bd y m 1
  have hb2 := daysR_bd y m (Cal.ml y m)
  rw [(hd _ (by omega) (by omega)).2] at hb1 hb2
  generalize Cal.num y m 1 = F at *
  generalize Cal.ml y m = L at *
  have h3 : k = 1 ∨ k = 2 ∨ k = 3 := by unfold chk at hc; omega
  have hw : ∀ i, 1 ≤ i → i ≤ L → daysE y m i = 0 ∧ daysR y m i = F + i - 1 ∧ weekE (F + i - 1) = 0 ∧ weekR (F + i - 1) = (F + i + 3) % 7 := by
    intro i h1 h2
    have hday : Cal.dayB (F + i - 1) = true := day_mk (by omega)
    refine ⟨(hd i h1 h2).1, (hd i h1 h2).2, by simp [weekE, hday], ?_⟩
    simp only [weekR, hday, if_true]
    rw [show F + i - 1 + 4 = F + i + 3 from by omega]
  refine ⟨F, L, pickd k wk D L F, hR, hlb.1, hlb.2, by omega, by omega, ?_, ?_, ?_, hw, hn⟩
  · unfold chk at hc; rcases h3 with rfl | rfl | rfl <;> (unfold pickd at *; simp only [Int.reduceEq, if_false, if_true] at *; omega)
  · unfold chk at hc; rcases h3 with rfl | rfl | rfl <;> (unfold pickd at *; simp only [Int.reduceEq, if_false, if_true] at *; omega)
  · unfold chk at hc
    rcases h3 with rfl | rfl | rfl
    · left
      refine ⟨rfl, ?_⟩
      simp only [pickd, if_true] at hP ⊢
      by_cases hDL : D ≤ L
      · rw [if_pos hDL]
      · rw [if_neg hDL] at hP; exact absurd rfl hP
    · right; left
      unfold pickd at *; simp only [Int.reduceEq, if_false, if_true] at *
      exact ⟨trivial, by omega, fun i h1 h2 h3 => by omega, trivial⟩
    · right; right
      unfold pickd at *; simp only [Int.reduceEq, if_false] at *
      by_cases hl : D + (wk - (F + D + 3)) % 7 ≤ L
      · rw [if_pos hl] at *
        exact ⟨trivial, by omega, fun i h1 h2 => by omega, by omega, by omega⟩
      · rw [if_neg hl] at hP; exact absurd rfl hP

set_option maxHeartbeats 8000000 in
theorem PickTrue_w (y m k wk D c : Int) (w : World) (hL : Laid w) (hc : -9223372036854775808 ≤ c ∧ c ≤ 9223372036854775807) : Calls Tryd.prog 7 #[.int .i64 y, .int .i64 m, onV k wk D, .int .i64 c] w fun e w' => e = .returned (.bool true) ∧ Below w.heap.size w w' := by
  have HL : Hid (Laid w) := hL
  have HC := hideH hc
  clear hL hc
  have hfe := beq_cases (findE y m k wk D) 0
  have hsp := find_spec y m k wk D
  have HSP := hideH hsp
  clear hsp
  go_enter Tryd.func7, Tryd.ntmps7
  go_wp2_with fail
  have hbox : Box (w.alloc (.cells #[.int .i64 k, .int .i64 wk, .int .i64 D] 36)) w.heap.size k wk D := ⟨by go_simp, by go_simp, by go_simp⟩
  have H0 : Hid (Below w.heap.size w (w.alloc (.cells #[.int .i64 k, .int .i64 wk, .int .i64 D] 36))) := (Below.refl _ _).alloc (Nat.le_refl _) _
  have L0 := hideH (HL.out.on H0.out)
  have B0 := hideH hbox
  clear hbox
  generalize w.alloc (.cells #[.int .i64 k, .int .i64 wk, .int .i64 D] 36) = w0 at *
  refine (Find_c _ _ _ _ _ _ L0.out).mono ?_
  rintro e w1 ⟨rfl, hw1⟩
  have H1 := hideH (bthen H0.out hw1)
  have L1 := hideH (L0.out.on hw1)
  have B1 := hideH (B0.out.on hw1)
  obtain ⟨c0, c1, c2⟩ := B1.out
  clear hw1 B0 H0 L0
  rcases hfe with ⟨f1, f2⟩ | ⟨f1, f2⟩
  · obtain ⟨F, L, P, hR, l1, l2, g1, g2, p1, p2, hk, hall, hno⟩ := HSP.out f2
    rw [hR, f2]
    clear f1 f2 hR HSP
    obtain ⟨q1, q2, q3, q4⟩ := hall P p1 p2
    have hi := cho_bd c 31 (by omega)
    generalize hI : cho c 31 = I0 at *
    have HI := hideH hI
    clear hI
    have HA := hideH hall
    have HN := hideH hno
    clear hall hno
    have hil : (1 + I0 ≤ L ∧ daysE y m (1 + I0) = 0 ∧ daysR y m (1 + I0) = F + (1 + I0) - 1 ∧ weekE (F + (1 + I0) - 1) = 0 ∧ weekR (F + (1 + I0) - 1) = (F + (1 + I0) + 3) % 7) ∨ daysE y m (1 + I0) = 3 := by
      by_cases h : 1 + I0 ≤ L
      · exact .inl ⟨h, HA.out _ (by omega) h⟩
      · exact .inr (HN.out _ (by omega))
    clear HA HN
    have HIL := hideH hil
    clear hil
    rcases hk with ⟨rfl, rfl⟩ | ⟨rfl, k2, k3, k4⟩ | ⟨rfl, k2, k3, k4, k5⟩
    · have hz : (P != P) = false := by simp
      go_wp2_with (first
        | (go_at_call 10; refine (Days_c _ _ _ _ L1.out).mono ?_; rintro e w1 ⟨rfl, rfl⟩)
        | (go_at_call 12; refine (Week_c _ _).mono ?_; rintro e w1 ⟨rfl, rfl⟩))
      refine (choose_law _ _ _ (by omega) (by omega) HC.out.1 HC.out.2).mono ?_
      rintro e w1 ⟨rfl, rfl⟩
      rw [HI.out]
      rcases HIL.out with ⟨z1, z2, z3, z4, z5⟩ | z2
      all_goals
        go_wp2_with (first
          | (go_at_call 10; refine (Days_c _ _ _ _ L1.out).mono ?_; rintro e w1 ⟨rfl, rfl⟩)
          | (go_at_call 12; refine (Week_c _ _).mono ?_; rintro e w1 ⟨rfl, rfl⟩)
          | (go_at_call 20; refine (pickBegun_c _ L1.out).mono ?_; rintro e w2 ⟨rfl, hw2⟩; obtain ⟨d0, d1, d2⟩ := B1.out.on hw2))
        go_ret
        exact ⟨rfl, bthen H1.out hw2⟩
    · have hz : ((F + P + 3) % 7 != wk) = false := by rw [k2]; simp
      clear k2
      have K3 := hideH k3
      clear k3 k4
      go_wp2_with (first
        | (go_at_call 10; refine (Days_c _ _ _ _ L1.out).mono ?_; rintro e w1 ⟨rfl, rfl⟩)
        | (go_at_call 12; refine (Week_c _ _).mono ?_; rintro e w1 ⟨rfl, rfl⟩))
      refine (choose_law _ _ _ (by omega) (by omega) HC.out.1 HC.out.2).mono ?_
      rintro e w1 ⟨rfl, rfl⟩
      rw [HI.out]
      rcases HIL.out with ⟨z1, z2, z3, z4, z5⟩ | z2
      · by_cases hv : (F + (1 + I0) + 3) % 7 = wk
        · have hle : 1 + I0 ≤ P := K3.out _ (by omega) z1 hv
          have hn : ((F + (1 + I0) + 3) % 7 != wk) = false := by rw [hv]; simp
          clear hv
          go_wp2_with (first
            | (go_at_call 10; refine (Days_c _ _ _ _ L1.out).mono ?_; rintro e w1 ⟨rfl, rfl⟩)
            | (go_at_call 12; refine (Week_c _ _).mono ?_; rintro e w1 ⟨rfl, rfl⟩)
            | (go_at_call 20; refine (pickBegun_c _ L1.out).mono ?_; rintro e w2 ⟨rfl, hw2⟩; obtain ⟨d0, d1, d2⟩ := B1.out.on hw2))
          go_ret
          exact ⟨rfl, bthen H1.out hw2⟩
        · have hn : ((F + (1 + I0) + 3) % 7 != wk) = true := by rw [bne_iff_ne]; exact hv
          clear hv
          go_wp2_with (first
            | (go_at_call 10; refine (Days_c _ _ _ _ L1.out).mono ?_; rintro e w1 ⟨rfl, rfl⟩)
            | (go_at_call 12; refine (Week_c _ _).mono ?_; rintro e w1 ⟨rfl, rfl⟩)
            | (go_at_call 20; refine (pickBegun_c _ L1.out).mono ?_; rintro e w2 ⟨rfl, hw2⟩; obtain ⟨d0, d1, d2⟩ := B1.out.on hw2))
          go_ret
          exact ⟨rfl, bthen H1.out hw2⟩
      ·
        go_wp2_with (first
          | (go_at_call 10; refine (Days_c _ _ _ _ L1.out).mono ?_; rintro e w1 ⟨rfl, rfl⟩)
          | (go_at_call 12; refine (Week_c _ _).mono ?_; rintro e w1 ⟨rfl, rfl⟩)
          | (go_at_call 20; refine (pickBegun_c _ L1.out).mono ?_; rintro e w2 ⟨rfl, hw2⟩; obtain ⟨d0, d1, d2⟩ := B1.out.on hw2))
        go_ret
        exact ⟨rfl, bthen H1.out hw2⟩
    · have hz : ((F + P + 3) % 7 != wk) = false := by rw [k2]; simp
      clear k2
      have K3 := hideH k3
      clear k3
      go_wp2_with (first
        | (go_at_call 10; refine (Days_c _ _ _ _ L1.out).mono ?_; rintro e w1 ⟨rfl, rfl⟩)
        | (go_at_call 12; refine (Week_c _ _).mono ?_; rintro e w1 ⟨rfl, rfl⟩))
      refine (choose_law _ _ _ (by omega) (by omega) HC.out.1 HC.out.2).mono ?_
      rintro e w1 ⟨rfl, rfl⟩
      rw [HI.out]
      rcases HIL.out with ⟨z1, z2, z3, z4, z5⟩ | z2
      · by_cases hv : (F + (1 + I0) + 3) % 7 = wk
        · have hn : ((F + (1 + I0) + 3) % 7 != wk) = false := by rw [hv]; simp
          by_cases hD : 1 + I0 < D
          · clear hv
            go_wp2_with (first
              | (go_at_call 10; refine (Days_c _ _ _ _ L1.out).mono ?_; rintro e w1 ⟨rfl, rfl⟩)
              | (go_at_call 12; refine (Week_c _ _).mono ?_; rintro e w1 ⟨rfl, rfl⟩)
              | (go_at_call 20; refine (pickBegun_c _ L1.out).mono ?_; rintro e w2 ⟨rfl, hw2⟩; obtain ⟨d0, d1, d2⟩ := B1.out.on hw2))
            go_ret
            exact ⟨rfl, bthen H1.out hw2⟩
          · have hle : P ≤ 1 + I0 := by
              rcases Int.lt_or_le (1 + I0) P with hlt | hge
              · exact absurd hv (K3.out _ (by omega) hlt)
              · exact hge
            clear hv
            go_wp2_with (first
              | (go_at_call 10; refine (Days_c _ _ _ _ L1.out).mono ?_; rintro e w1 ⟨rfl, rfl⟩)
              | (go_at_call 12; refine (Week_c _ _).mono ?_; rintro e w1 ⟨rfl, rfl⟩)
              | (go_at_call 20; refine (pickBegun_c _ L1.out).mono ?_; rintro e w2 ⟨rfl, hw2⟩; obtain ⟨d0, d1, d2⟩ := B1.out.on hw2))
            go_ret
            exact ⟨rfl, bthen H1.out hw2⟩
        · have hn : ((F + (1 + I0) + 3) % 7 != wk) = true := by rw [bne_iff_ne]; exact hv
          clear hv
          go_wp2_with (first
            | (go_at_call 10; refine (Days_c _ _ _ _ L1.out).mono ?_; rintro e w1 ⟨rfl, rfl⟩)
            | (go_at_call 12; refine (Week_c _ _).mono ?_; rintro e w1 ⟨rfl, rfl⟩)
            | (go_at_call 20; refine (pickBegun_c _ L1.out).mono ?_; rintro e w2 ⟨rfl, hw2⟩; obtain ⟨d0, d1, d2⟩ := B1.out.on hw2))
          go_ret
          exact ⟨rfl, bthen H1.out hw2⟩
      ·
        go_wp2_with (first
          | (go_at_call 10; refine (Days_c _ _ _ _ L1.out).mono ?_; rintro e w1 ⟨rfl, rfl⟩)
          | (go_at_call 12; refine (Week_c _ _).mono ?_; rintro e w1 ⟨rfl, rfl⟩)
          | (go_at_call 20; refine (pickBegun_c _ L1.out).mono ?_; rintro e w2 ⟨rfl, hw2⟩; obtain ⟨d0, d1, d2⟩ := B1.out.on hw2))
        go_ret
        exact ⟨rfl, bthen H1.out hw2⟩
  · have hne : (findE y m k wk D != 0) = true := by rw [bne_iff_ne]; exact f2
    clear f2 HSP
    go_wp2_with (go_at_call 20; refine (pickBegun_c _ L1.out).mono ?_; rintro e w2 ⟨rfl, hw2⟩)
    go_ret
    exact ⟨rfl, bthen H1.out hw2⟩
end Go.Proofs.YtlmhapbmebnmlaaDoor

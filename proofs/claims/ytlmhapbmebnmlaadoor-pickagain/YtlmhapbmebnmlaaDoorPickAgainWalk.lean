/- The walk of the statement PickAgain: it returns true, and nothing that lay in memory has turned. -/
import Derived.Test.YtlmhapbmebnmlaaDoorPickT
namespace Go.Proofs.YtlmhapbmebnmlaaDoor
open Go Go.RowKit
set_option linter.unusedVariables false

theorem again_spec (y m wk : Int) (h1 : 0 ≤ wk) (h2 : wk < 7) :
    (findE y m 2 wk 0 = 3 ∧ findE y m 3 wk 1 = 3) ∨
    ∃ P Q : Int, findE y m 2 wk 0 = 0 ∧ findE y m 3 wk 1 = 0 ∧ findR y m 2 wk 0 = P ∧ findR y m 3 wk 1 = Q ∧ findE y m 3 wk P = 0 ∧ findR y m 3 wk P = P ∧ findE y m 3 wk (P - 7) = 0 ∧ findR y m 3 wk (P - 7) = P - 7
      ∧ 15 ≤ P ∧ P ≤ 31 ∧ 1 ≤ Q ∧ Q ≤ 7 ∧ (P - Q) % 7 = 0 := by
  have c1 : chk 2 wk 0 = 0 := by unfold chk; omega
  have c2 : ∀ D, 1 ≤ D → D ≤ 31 → chk 3 wk D = 0 := by intro D a b; unfold chk; omega
  cases hok : Cal.okB y m 1
  · exact .inl ⟨by simp [findE, c1, hok], by simp [findE, c2 1, hok]⟩
  · right
    have hlb := Cal.ml_bd y m
    have key : ∀ F L : Int, 28 ≤ L → L ≤ 31 → (pickd 2 wk 0 L F = L - (F + L + 3 - wk) % 7 ∧ pickd 3 wk 1 L F = 1 + (wk - (F + 1 + 3)) % 7 ∧ pickd 3 wk (L - (F + L + 3 - wk) % 7) L F = L - (F + L + 3 - wk) % 7 ∧ pickd 3 wk (L - (F + L + 3 - wk) % 7 - 7) L F = L - (F + L + 3 - wk) % 7 - 7) := by
      intro F L a b
      unfold pickd
      simp only [Int.reduceEq, if_false, if_true]
      refine ⟨trivial, ?_, ?_, ?_⟩
      · rw [if_pos (by omega)]
      · rw [if_pos (by omega)]; omega
      · rw [if_pos (by omega)]; omega
    obtain ⟨k1, k2, k3, k4⟩ := key (Cal.num y m 1) (Cal.ml y m) hlb.1 hlb.2
    clear key
    refine ⟨Cal.ml y m - (Cal.num y m 1 + Cal.ml y m + 3 - wk) % 7, 1 + (wk - (Cal.num y m 1 + 1 + 3)) % 7, ?_, ?_, ?_, ?_, ?_, ?_, ?_, ?_, by omega, by omega, by omega, by omega, by omega⟩
    · simp only [findE, c1, hok, if_true, k1]; rw [if_neg (by omega)]
    · simp only [findE, c2 1 (by omega) (by omega), hok, if_true, k2]; rw [if_neg (by omega)]
    · simp only [findR, c1, hok, and_self, if_true, k1]
    · simp only [findR, c2 1 (by omega) (by omega), hok, and_self, if_true, k2]
    · simp only [findE, c2 (Cal.ml y m - (Cal.num y m 1 + Cal.ml y m + 3 - wk) % 7) (by omega) (by omega), hok, if_true, k3]; rw [if_neg (by omega)]
    · simp only [findR, c2 (Cal.ml y m - (Cal.num y m 1 + Cal.ml y m + 3 - wk) % 7) (by omega) (by omega), hok, and_self, if_true, k3]
    · simp only [findE, c2 (Cal.ml y m - (Cal.num y m 1 + Cal.ml y m + 3 - wk) % 7 - 7) (by omega) (by omega), hok, if_true, k4]; rw [if_neg (by omega)]
    · simp only [findR, c2 (Cal.ml y m - (Cal.num y m 1 + Cal.ml y m + 3 - wk) % 7 - 7) (by omega) (by omega), hok, and_self, if_true, k4]

set_option maxHeartbeats 8000000 in
theorem PickAgain_w (y m c : Int) (w : World) (hL : Laid w) (hc : -9223372036854775808 ≤ c ∧ c ≤ 9223372036854775807) : Calls Tryd.prog 8 #[.int .i64 y, .int .i64 m, .int .i64 c] w fun e w' => e = .returned (.bool true) ∧ Below w.heap.size w w' := by
  have HL : Hid (Laid w) := hL
  have hi := cho_bd c 7 (by omega)
  have hsp := again_spec y m (cho c 7) hi.1 hi.2
  have HC := hideH hc
  clear hL hc
  generalize hI : cho c 7 = I0 at *
  have HI := hideH hI
  clear hI
  rcases hsp with ⟨e1, e2⟩ | ⟨P, Q, e1, e2, e3, e4, e5, e6, e7, e8, p1, p2, q1, q2, q3⟩
  · go_enter Tryd.func8, Tryd.ntmps8
    go_wp2_with fail
    refine (choose_law _ _ _ (by omega) (by omega) HC.out.1 HC.out.2).mono ?_
    rintro e w ⟨rfl, rfl⟩
    rw [HI.out]
    go_wp2_with fail
    refine (Find_c _ _ _ _ _ _ HL.out).mono ?_
    rintro e w1 ⟨rfl, hw1⟩
    have H1 := hideH hw1
    have L1 := hideH (HL.out.on hw1)
    clear hw1
    go_wp2_with fail
    refine (Find_c _ _ _ _ _ _ L1.out).mono ?_
    rintro e w2 ⟨rfl, hw2⟩
    have H2 := hideH (bthen H1.out hw2)
    have L2 := hideH (L1.out.on hw2)
    clear hw2
    go_wp2_with fail
    refine (pickBegun_c _ L2.out).mono ?_
    rintro e w3 ⟨rfl, hw3⟩
    have H3 := hideH (bthen H2.out hw3)
    clear hw3
    go_wp2_with fail
    go_ret
    exact ⟨rfl, H3.out⟩
  · have q4 : Q ≤ P := by omega
    go_enter Tryd.func8, Tryd.ntmps8
    go_wp2_with fail
    refine (choose_law _ _ _ (by omega) (by omega) HC.out.1 HC.out.2).mono ?_
    rintro e w ⟨rfl, rfl⟩
    rw [HI.out]
    go_wp2_with fail
    refine (Find_c _ _ _ _ _ _ HL.out).mono ?_
    rintro e w1 ⟨rfl, hw1⟩
    have H1 := hideH hw1
    have L1 := hideH (HL.out.on hw1)
    clear hw1
    go_wp2_with fail
    refine (Find_c _ _ _ _ _ _ L1.out).mono ?_
    rintro e w2 ⟨rfl, hw2⟩
    have H2 := hideH (bthen H1.out hw2)
    have L2 := hideH (L1.out.on hw2)
    clear hw2
    go_wp2_with fail
    refine (Find_c _ _ _ _ _ _ L2.out).mono ?_
    rintro e w3 ⟨rfl, hw3⟩
    have H3 := hideH (bthen H2.out hw3)
    have L3 := hideH (L2.out.on hw3)
    clear hw3
    go_wp2_with fail
    refine (Find_c _ _ _ _ _ _ L3.out).mono ?_
    rintro e w4 ⟨rfl, hw4⟩
    have H4 := hideH (bthen H3.out hw4)
    have L4 := hideH (L3.out.on hw4)
    clear hw4
    go_wp2_with fail
    refine (pickBegun_c _ L4.out).mono ?_
    rintro e w5 ⟨rfl, hw5⟩
    have H5 := hideH (bthen H4.out hw5)
    clear hw5
    go_wp2_with fail
    go_ret
    exact ⟨rfl, H5.out⟩
end Go.Proofs.YtlmhapbmebnmlaaDoor

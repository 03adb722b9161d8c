/- Contracts of the document's own answers on days of months: CheckOn, FindOf. -/
import Derived.Test.YtlmhapbmebnmlabDoorPickB
namespace Go.Proofs.YtlmhapbmebnmlabDoor
open Go Go.RowKit
set_option linter.unusedVariables false

set_option maxHeartbeats 4000000 in
theorem CheckOn_c (k wk d : Int) (w : World) : Calls Tryd.prog 27 #[onV k wk d] w fun e w' => e = .returned (.int .i64 (chk k wk d)) ∧ Below w.heap.size w w' := by
  rcases in_cases k 1 3 with ⟨k1, k2⟩ | ⟨k1, k2⟩
  · rcases in_cases wk 0 6 with ⟨b1, b2⟩ | ⟨b1, b2⟩
    · have h : k = 1 ∨ k = 2 ∨ k = 3 := by omega
      rcases h with rfl | rfl | rfl
      · rcases beq_cases wk 0 with ⟨a1, rfl⟩ | ⟨a1, a2⟩
        · rcases in_cases d 1 31 with ⟨c1, c2⟩ | ⟨c1, c2⟩
          all_goals
            have hv : chk 1 0 d = (if inB d 1 31 then 0 else 3) := by unfold chk; rw [c1]; simp; omega
            rw [hv, c1]
            clear hv c2 b2 k2
            go_enter Tryd.func27, Tryd.ntmps27
            go_wp2_with (go_at_call 17; refine (within_c _ _ _ _).mono ?_; rintro e w' ⟨rfl, rfl⟩)
            go_ret
            exact ⟨rfl, (Below.refl _ _).alloc (Nat.le_refl _) _⟩
        · have hv : chk 1 wk d = 3 := by unfold chk; omega
          have hn : (wk != 0) = true := by rw [bne_iff_ne]; exact a2
          rw [hv]
          clear hv a2 b2 k2 a1
          go_enter Tryd.func27, Tryd.ntmps27
          go_wp2_with (go_at_call 17; refine (within_c _ _ _ _).mono ?_; rintro e w' ⟨rfl, rfl⟩)
          go_ret
          exact ⟨rfl, (Below.refl _ _).alloc (Nat.le_refl _) _⟩
      · rcases beq_cases d 0 with ⟨a1, rfl⟩ | ⟨a1, a2⟩
        · have hv : chk 2 wk 0 = 0 := by unfold chk; omega
          rw [hv]
          clear hv b2 a1
          go_enter Tryd.func27, Tryd.ntmps27
          go_wp2_with (go_at_call 17; refine (within_c _ _ _ _).mono ?_; rintro e w' ⟨rfl, rfl⟩)
          go_ret
          exact ⟨rfl, (Below.refl _ _).alloc (Nat.le_refl _) _⟩
        · have hv : chk 2 wk d = 3 := by unfold chk; omega
          have hn : (d != 0) = true := by rw [bne_iff_ne]; exact a2
          rw [hv]
          clear hv b2 a2 a1
          go_enter Tryd.func27, Tryd.ntmps27
          go_wp2_with (go_at_call 17; refine (within_c _ _ _ _).mono ?_; rintro e w' ⟨rfl, rfl⟩)
          go_ret
          exact ⟨rfl, (Below.refl _ _).alloc (Nat.le_refl _) _⟩
      · rcases in_cases d 1 31 with ⟨c1, c2⟩ | ⟨c1, c2⟩
        all_goals
          have hv : chk 3 wk d = (if inB d 1 31 then 0 else 3) := by unfold chk; rw [c1]; simp; omega
          rw [hv, c1]
          clear hv c2 b2 k2
          go_enter Tryd.func27, Tryd.ntmps27
          go_wp2_with (go_at_call 17; refine (within_c _ _ _ _).mono ?_; rintro e w' ⟨rfl, rfl⟩)
          go_ret
          exact ⟨rfl, (Below.refl _ _).alloc (Nat.le_refl _) _⟩
    · have hv : chk k wk d = 3 := by unfold chk; omega
      rw [hv]
      clear hv b2 k2
      go_enter Tryd.func27, Tryd.ntmps27
      go_wp2_with (go_at_call 17; refine (within_c _ _ _ _).mono ?_; rintro e w' ⟨rfl, rfl⟩)
      go_ret
      exact ⟨rfl, (Below.refl _ _).alloc (Nat.le_refl _) _⟩
  · have hv : chk k wk d = 8 := by unfold chk; omega
    rw [hv]
    clear hv k2
    go_enter Tryd.func27, Tryd.ntmps27
    go_wp2_with (go_at_call 17; refine (within_c _ _ _ _).mono ?_; rintro e w' ⟨rfl, rfl⟩)
    go_ret
    exact ⟨rfl, (Below.refl _ _).alloc (Nat.le_refl _) _⟩

/-- what FindOf has found ahead of day j -/
def fnd (k wk D f j : Int) : Int :=
  if k = 1 then (if D < j then D else 0)
  else if k = 2 then (if 1 ≤ j - 1 - (f + (j - 1) + 3 - wk) % 7 then j - 1 - (f + (j - 1) + 3 - wk) % 7 else 0)
  else if D + (wk - (f + D + 3)) % 7 < j then D + (wk - (f + D + 3)) % 7 else 0
theorem fnd_start (k wk D f : Int) (hk : chk k wk D = 0) : fnd k wk D f 1 = 0 := by
  unfold chk at hk; unfold fnd; omega
theorem fnd_end (k wk D f L : Int) (hk : chk k wk D = 0) (h : 28 ≤ L) : fnd k wk D f (L + 1) = pickd k wk D L f := by
  unfold chk at hk; unfold fnd pickd
  have h3 : k = 1 ∨ k = 2 ∨ k = 3 := by omega
  rcases h3 with rfl | rfl | rfl
  · simp only [if_true]; omega
  · have e : L + 1 - 1 = L := by omega
    rw [e]
    simp only [Int.reduceEq, if_false, if_true]
    omega
  · simp only [Int.reduceEq, if_false]
    omega
theorem fnd_one (wk D f j : Int) (hk : chk 1 wk D = 0) (h : 1 ≤ j) : fnd 1 wk D f (j + 1) = if j = D then j else fnd 1 wk D f j := by
  unfold chk at hk; unfold fnd; simp only [if_true]; omega
theorem fnd_two (wk D f j : Int) (hk : chk 2 wk D = 0) (h : 1 ≤ j) : fnd 2 wk D f (j + 1) = if (f + j - 1 + 4) % 7 = wk then j else fnd 2 wk D f j := by
  unfold chk at hk; unfold fnd
  have e : j + 1 - 1 = j := by omega
  rw [e]
  simp only [Int.reduceEq, if_false, if_true]
  split <;> omega
theorem fnd_three (wk D f j : Int) (hk : chk 3 wk D = 0) (h : 1 ≤ j) : fnd 3 wk D f (j + 1) = if (f + j - 1 + 4) % 7 = wk ∧ D ≤ j ∧ fnd 3 wk D f j = 0 then j else fnd 3 wk D f j := by
  unfold chk at hk; unfold fnd
  simp only [Int.reduceEq, if_false]
  generalize hX : D + (wk - (f + D + 3)) % 7 = X
  have x1 : D ≤ X := by omega
  have x2 : X ≤ D + 6 := by omega
  have x3 : (f + X + 3) % 7 = wk := by omega
  have x0 : 1 ≤ D := by omega
  clear hX hk
  by_cases hw : (f + j - 1 + 4) % 7 = wk
  · simp only [hw, true_and]
    by_cases hD : D ≤ j
    · by_cases hj : X < j
      · have : ¬ X = 0 := by omega
        simp only [hj, if_true, this, and_false, if_false]; omega
      · have : X = j := by omega
        simp only [hj, if_false, hD, true_and, if_true]; omega
    · simp only [hD, false_and, if_false]; omega
  · simp only [hw, false_and, if_false]
    have : X ≠ j := fun e => hw (by rw [← e]; omega)
    omega
end Go.Proofs.YtlmhapbmebnmlabDoor

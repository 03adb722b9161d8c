/- Contracts of the document's own answers on days of months: CheckOn, FindOf. -/
import Derived.Test.YtainhpnmgligjafRefAAll
namespace Go.Proofs.Ytainhpnmgligjaf
open Go Go.RowKit
set_option linter.unusedVariables false
/-- what FindOf has found ahead of day j -/
def fnd (k wk D f j : Int) : Int :=
  if k = 1 then (if D < j then D else 0)
  else if k = 2 then (if 1 ≤ j - 1 - (f + (j - 1) + 3 - wk) % 7 then j - 1 - (f + (j - 1) + 3 - wk) % 7 else 0)
  else if D + (wk - (f + D + 3)) % 7 < j then D + (wk - (f + D + 3)) % 7 else 0
theorem fnd_start (k wk D f : Int) (hk : chk k wk D = 0) : fnd k wk D f 1 = 0 := by
  unfold chk at hk; unfold fnd; omega
theorem fnd_end (k wk D f L : Int) (hk : chk k wk D = 0) (h : 28 ≤ L) : fnd k wk D f (L + 1) = pickd k wk D L f := by
  unfold chk at hk; unfold fnd pickd
  have h3 : k = 1 ∨ k = 2 ∨ k = 3 := by omega
  rcases h3 with rfl | rfl | rfl
  · simp only [if_true]; omega
  · have e : L + 1 - 1 = L := by omega
    rw [e]
    simp only [Int.reduceEq, if_false, if_true]
    omega
  · simp only [Int.reduceEq, if_false]
    omega
theorem fnd_one (wk D f j : Int) (hk : chk 1 wk D = 0) (h : 1 ≤ j) : fnd 1 wk D f (j + 1) = if j = D then j else fnd 1 wk D f j := by
  unfold chk at hk; unfold fnd; simp only [if_true]; omega
theorem fnd_two (wk D f j : Int) (hk : chk 2 wk D = 0) (h : 1 ≤ j) : fnd 2 wk D f (j + 1) = if (f + j - 1 + 4) % 7 = wk then j else fnd 2 wk D f j := by
  unfold chk at hk; unfold fnd
  have e : j + 1 - 1 = j := by omega
  rw [e]
  simp only [Int.reduceEq, if_false, if_true]
  split <;> omega
theorem fnd_three (wk D f j : Int) (hk : chk 3 wk D = 0) (h : 1 ≤ j) : fnd 3 wk D f (j + 1) = if (f + j - 1 + 4) % 7 = wk ∧ D ≤ j ∧ fnd 3 wk D f j = 0 then j else fnd 3 wk D f j := by
  unfold chk at hk; unfold fnd
  simp only [Int.reduceEq, if_false]
  generalize hX : D + (wk - (f + D + 3)) % 7 = X
  have x1 : D ≤ X := by omega
  have x2 : X ≤ D + 6 := by omega
  have x3 : (f + X + 3) % 7 = wk := by omega
  have x0 : 1 ≤ D := by omega
  clear hX hk
  by_cases hw : (f + j - 1 + 4) % 7 = wk
  · simp only [hw, true_and]
    by_cases hD : D ≤ j
    · by_cases hj : X < j
      · have : ¬ X = 0 := by omega
        simp only [hj, if_true, this, and_false, if_false]; omega
      · have : X = j := by omega
        simp only [hj, if_false, hD, true_and, if_true]; omega
    · simp only [hD, false_and, if_false]; omega
  · simp only [hw, false_and, if_false]
    have : X ≠ j := fun e => hw (by rw [← e]; omega)
    omega
end Go.Proofs.Ytainhpnmgligjaf

/- The contract of the document's own answer FindOf. -/
namespace Go.Proofs.Ytainhpnmgligjaf
open Go Go.RowKit
set_option linter.unusedVariables false

/-- the three fields of a boxed day of a month -/
def Box (v : World) (b : Nat) (k wk D : Int) : Prop := v.cell? ⟨b, 0, none⟩ = some (.int .i64 k) ∧ v.cell? ⟨b, 1, none⟩ = some (.int .i64 wk) ∧ v.cell? ⟨b, 2, none⟩ = some (.int .i64 D)
theorem Box.on {w w' : World} {b : Nat} {k wk D : Int} (h : Box w b k wk D) (hb : Below w.heap.size w w') : Box w' b k wk D := by
  obtain ⟨h0, h1, h2⟩ := h
  refine ⟨?_, ?_, ?_⟩
  · rw [hb.cell (p := ⟨b, 0, none⟩) (cell_lt h0)]; exact h0
  · rw [hb.cell (p := ⟨b, 1, none⟩) (cell_lt h1)]; exact h1
  · rw [hb.cell (p := ⟨b, 2, none⟩) (cell_lt h2)]; exact h2

end Go.Proofs.Ytainhpnmgligjaf

/- FindOf whatever it is handed; the statements' own pickBegun and choose. -/
namespace Go.Proofs.Ytainhpnmgligjaf
open Go Go.RowKit
set_option linter.unusedVariables false
/-- which of n things a raw number speaks of -/
def cho (c n : Int) : Int := if c < 0 then (-(c + 1)) % n else c % n
theorem choose_law (c n : Int) (w : World) (hn : 0 < n) (hn2 : n ≤ 1000000) (hc : -9223372036854775808 ≤ c) (hc2 : c ≤ 9223372036854775807) :
    Calls Try.prog 10 #[.int .i64 c, .int .i64 n] w fun e w' => e = .returned (.int .i64 (cho c n)) ∧ w' = w := by
  by_cases h : c < 0
  · go_enter Try.func10, Try.ntmps10
    go_wp2
    go_ret
    exact ⟨ret_int (by unfold cho; rw [if_pos h, ← Int.neg_tmod, Int.tmod_eq_emod_of_nonneg (by omega)]), rfl⟩
  · go_enter Try.func10, Try.ntmps10
    go_wp2
    go_ret
    exact ⟨ret_int (by unfold cho; rw [if_neg (by omega)]), rfl⟩
theorem cho_bd (c n : Int) (hn : 0 < n) : 0 ≤ cho c n ∧ cho c n < n := by
  unfold cho
  have h1 := Int.emod_nonneg (-(c + 1)) (show n ≠ 0 by omega)
  have h2 := Int.emod_lt_of_pos (-(c + 1)) hn
  have h3 := Int.emod_nonneg c (show n ≠ 0 by omega)
  have h4 := Int.emod_lt_of_pos c hn
  split <;> constructor <;> assumption
end Go.Proofs.Ytainhpnmgligjaf

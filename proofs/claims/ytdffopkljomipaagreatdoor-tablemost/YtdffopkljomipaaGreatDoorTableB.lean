/- What table.Look answers, and the contract of table.isTable as a Bool. -/
import Derived.Test.YtdffopkljomipaaGreatDoorTableA
namespace Go.Proofs.YtdffopkljomipaaGreatDoor
open Go Go.RowKit
set_option linter.unusedVariables false

def isTB (ts : Nat → Tu) (n : Nat) : Bool := decide (0 < n) && (decide ((ts 0).at_ = 0) && (decide ((ts (n - 1)).at_ < 1893456000) && (List.range n).all (fun i => decide (1 ≤ i → (ts (i - 1)).at_ < (ts i).at_))))
theorem isTB_iff (ts : Nat → Tu) (n : Nat) : isTB ts n = true ↔ isT ts n := by
  unfold isTB isT risT
  simp only [Bool.and_eq_true, decide_eq_true_eq, List.all_eq_true, List.mem_range]
  constructor
  · rintro ⟨h1, h2, h3, h4⟩
    exact ⟨h1, h2, h3, fun i a b => h4 i b a⟩
  · rintro ⟨h1, h2, h3, h4⟩
    exact ⟨h1, h2, h3, fun i a b => h4 i b a⟩
theorem isTable_b (a : Option Addr) (n c : Nat) (ts : Nat → Tu) (w : World) (hn : n ≤ maxLen) (hT : TuAt w a n ts) :
    Calls Tryz.prog 18 #[.slice a n c] w fun e w' => e = .returned (.bool (isTB ts n)) ∧ Below w.heap.size w w' := by
  refine (isTable_c a n c ts w hn hT).mono ?_
  rintro e w' ⟨B, rfl, h, hb⟩
  refine ⟨?_, hb⟩
  rw [show B = isTB ts n by rw [Bool.eq_iff_iff, h, isTB_iff]]
/-- the last turn that is not behind a time -/
def lokI (ts : Nat → Tu) (t : Int) : Nat → Nat
  | 0 => 0
  | k + 1 => if (ts k).at_ ≤ t then k else lokI ts t k
theorem risT_le {ts : Nat → Tu} {n : Nat} (h : risT ts n) : ∀ {i j : Nat}, i ≤ j → j < n → (ts i).at_ ≤ (ts j).at_
  | i, 0, h1, _ => by obtain rfl : i = 0 := by omega
                      exact Int.le_refl _
  | i, j + 1, h1, h2 => by
    by_cases hi : i = j + 1
    · subst hi; exact Int.le_refl _
    · have := risT_le h (i := i) (j := j) (by omega) (by omega)
      have h3 := h (j + 1) (by omega) h2
      simp only [Nat.add_sub_cancel] at h3
      omega
theorem lokI_stop {ts : Nat → Tu} {t : Int} {k : Nat} : ∀ {n : Nat}, risT ts n → k ≤ n → (k < n → t < (ts k).at_) → lokI ts t n = lokI ts t k
  | 0, _, h1, _ => by obtain rfl : k = 0 := by omega
                      rfl
  | n + 1, hr, h1, h2 => by
    by_cases hk : k = n + 1
    · rw [hk]
    · have h3 := risT_le hr (i := k) (j := n) (by omega) (by omega)
      have h4 := h2 (by omega)
      rw [lokI, if_neg (by omega)]
      exact lokI_stop (fun i a b => hr i a (by omega)) (by omega) (fun h => h4)
def lokO (ts : Nat → Tu) (t : Int) (n : Nat) : Of := ⟨(ts (lokI ts t n)).tt, (ts (lokI ts t n)).sv, (ts (lokI ts t n)).ab⟩
def lukE (ts : Nat → Tu) (n : Nat) (t : Int) : Int := if isTB ts n = true then (if 0 ≤ t ∧ t < 1893456000 then 0 else 3) else 1
def lukO (ts : Nat → Tu) (n : Nat) (t : Int) : Of := if lukE ts n t = 0 then lokO ts t n else oZ
end Go.Proofs.YtdffopkljomipaaGreatDoor

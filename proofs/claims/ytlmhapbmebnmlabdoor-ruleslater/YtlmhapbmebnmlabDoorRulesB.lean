/- Contracts of package rules: letters, Std, and the document's own. -/
import Derived.Test.YtlmhapbmebnmlabDoorRulesA
namespace Go.Proofs.YtlmhapbmebnmlabDoor
open Go Go.RowKit
set_option linter.unusedVariables false

def ltrB (n : Int) : Bool := decide ((65 ≤ n ∧ n ≤ 90) ∨ (97 ≤ n ∧ n ≤ 122))
def allLet (l : List UInt8) : Bool := l.all fun c => ltrB c.toNat
theorem take_snoc (s : ByteArray) (k : Nat) (h : k < s.size) : s.data.toList.take (k + 1) = s.data.toList.take k ++ [s[k]] := by
  rw [List.take_succ_eq_append_getElem (by simpa using h)]; rfl
theorem all_snoc (s : ByteArray) (k : Nat) (h : k < s.size) (h1 : allLet (s.data.toList.take k) = true) (h2 : ltrB (s[k].toNat : Int) = true) : allLet (s.data.toList.take (k + 1)) = true := by
  rw [take_snoc s k h]; unfold allLet at *; rw [List.all_append, h1]; simpa using h2
theorem all_bad (s : ByteArray) (k : Nat) (h : k < s.size) (h2 : ltrB (s[k].toNat : Int) = false) : allLet s.data.toList = false := by
  unfold allLet
  rw [List.all_eq_false]
  exact ⟨s[k], by simp [ByteArray.getElem_eq_getElem_data], by simpa using h2⟩
theorem isLetter_c (n : Int) (w : World) (h0 : 0 ≤ n) (h255 : n ≤ 255) : Calls Tryd.prog 37 #[.int .u8 n] w fun e w' => e = .returned (.bool (ltrB n)) ∧ w' = w := by
  have h : n < 65 ∨ (65 ≤ n ∧ n ≤ 90) ∨ (90 < n ∧ n < 97) ∨ (97 ≤ n ∧ n ≤ 122) ∨ (122 < n) := by omega
  rcases h with h | ⟨h, h'⟩ | ⟨h, h'⟩ | ⟨h, h'⟩ | h
  all_goals
    go_enter Tryd.func37, Tryd.ntmps37
    go_wp2
    go_ret
    exact ⟨ret_bool (by unfold ltrB; rw [Bool.eq_iff_iff]; simp; try omega), rfl⟩
def letS (s : ByteArray) : Bool := decide (s.size ≤ 12) && allLet s.data.toList
set_option maxHeartbeats 1000000 in
theorem isLetters_c (s : ByteArray) (w : World) (hs : s.size ≤ maxLen) : Calls Tryd.prog 23 #[.string s] w fun e w' => e = .returned (.bool (letS s)) ∧ w' = w := by
  unfold maxLen at hs
  by_cases h12 : s.size ≤ 12
  · have hv : letS s = allLet s.data.toList := by simp [letS, h12]
    rw [hv]
    clear hv
    go_enter Tryd.func23, Tryd.ntmps23
    go_wp2_with fail
    go_loop [3] (fun i => ∃ k : Nat, k ≤ s.size ∧ i = .int .i64 k ∧ allLet (s.data.toList.take k) = true) (fun i => s.size - (intOf i).toNat)
    case atStart => exact ⟨0, Nat.zero_le _, rfl, rfl⟩
    case round =>
      obtain ⟨k, hk, rfl, ha⟩ := hrel
      by_cases hlt : k < s.size
      · cases hl : ltrB (s[k].toNat : Int)
        · have HB := hideH (all_bad s k hlt hl)
          clear ha
          have hb := s[k].toNat_lt
          go_wp2_with (go_at_call 37; refine (isLetter_c _ _ (by omega) (by omega)).mono ?_; rintro e w ⟨rfl, rfl⟩)
          go_ret
          exact ⟨ret_bool HB.out.symm, rfl⟩
        · have HA := hideH (all_snoc s k hlt ha hl)
          clear ha
          have hb := s[k].toNat_lt
          go_wp2_with (go_at_call 37; refine (isLetter_c _ _ (by omega) (by omega)).mono ?_; rintro e w ⟨rfl, rfl⟩)
          go_round
          case rel => exact ⟨k + 1, by omega, by go_num, HA.out⟩
          case measure => simp [intOf]; omega
      · have hk' : k = s.size := by omega
        have HA := hideH ha
        clear ha
        go_wp2_with fail
        go_ret
        exact ⟨ret_bool (by have := HA.out; rw [List.take_of_length_le (by simp; omega)] at this; exact this.symm), rfl⟩
  · have hv : letS s = false := by simp [letS, h12]
    rw [hv]
    clear hv
    go_enter Tryd.func23, Tryd.ntmps23
    go_wp2_with fail
    go_ret
    exact ⟨rfl, rfl⟩
end Go.Proofs.YtlmhapbmebnmlabDoor

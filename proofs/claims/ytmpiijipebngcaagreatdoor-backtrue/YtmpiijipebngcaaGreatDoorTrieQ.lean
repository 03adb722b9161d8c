/- Plain facts for TrieTrue and TrieOrder. -/
import Derived.Test.YtmpiijipebngcaaGreatDoorTrieGAll
namespace Go.Proofs.YtmpiijipebngcaaGreatDoor.Tri
open Go Go.RowKit Go.Maps
set_option linter.unusedVariables false

theorem tl (a : ByteArray) : a.toList = a.data.toList := ByteArray.toList_eq a
/-- does a text begin with a word? -/
def isPre (s x : ByteArray) : Prop := x.size ≤ s.size ∧ s.data.toList.take x.size = x.data.toList
/-- the longest one of the first k words -/
def bst (s : ByteArray) (ss : Nat → ByteArray) : Nat → Nat
  | 0 => 0
  | k + 1 => if decide ((ss k).size ≤ s.size) && (s.data.toList.take (ss k).size == (ss k).data.toList) then max (bst s ss k) (ss k).size else bst s ss k
theorem pre_iff (s x : ByteArray) : (decide (x.size ≤ s.size) && (s.data.toList.take x.size == x.data.toList)) = true ↔ isPre s x := by
  unfold isPre
  simp
theorem bst_yes {s : ByteArray} {ss : Nat → ByteArray} {k : Nat} (h : isPre s (ss k)) : bst s ss (k + 1) = max (bst s ss k) (ss k).size := by
  rw [bst, if_pos ((pre_iff _ _).2 h)]
theorem bst_no {s : ByteArray} {ss : Nat → ByteArray} {k : Nat} (h : ¬ isPre s (ss k)) : bst s ss (k + 1) = bst s ss k := by
  rw [bst, if_neg (fun e => h ((pre_iff _ _).1 e))]
theorem bst_mono (s : ByteArray) (ss : Nat → ByteArray) : ∀ {j k : Nat}, j ≤ k → bst s ss j ≤ bst s ss k
  | j, 0, h => by obtain rfl : j = 0 := by omega
                  exact Nat.le_refl _
  | j, k + 1, h => by
    by_cases e : j = k + 1
    · rw [e]; exact Nat.le_refl _
    · have := bst_mono s ss (j := j) (k := k) (by omega)
      by_cases hp : isPre s (ss k)
      · rw [bst_yes hp]; omega
      · rw [bst_no hp]; exact this
theorem bst_le {n : Nat} {ss : Nat → ByteArray} (h0 : bldE n ss = 0) (s : ByteArray) : ∀ k, k ≤ n → bst s ss k ≤ (longR (trI n ss) s).2
  | 0, _ => Nat.zero_le _
  | k + 1, hk => by
    have ih := bst_le h0 s k (by omega)
    by_cases hp : isPre s (ss k)
    · rw [bst_yes hp]
      have f := long_facts h0 s
      have : (ss k).size ≤ (longR (trI n ss) s).2 := by
        rcases Nat.lt_or_ge (longR (trI n ss) s).2 (ss k).size with h | h
        · have h1 := f.more _ h hp.1
          have h2 : 0 ≤ fwW n ss (s.data.toList.take (ss k).size) := (fw_iff _ _ _).2 ⟨k, by omega, by rw [wo_wl (by omega), hp.2]⟩
          omega
        · exact h
      omega
    · rw [bst_no hp]; exact ih
/-- what the longest one is -/
theorem long_word {n : Nat} {ss : Nat → ByteArray} (h0 : bldE n ss = 0) (s : ByteArray) : ((longR (trI n ss) s).1 = -1 ∧ (longR (trI n ss) s).2 = 0) ∨ ∃ j : Nat, j < n ∧ (longR (trI n ss) s).1 = j ∧ (ss j).data.toList = s.data.toList.take (longR (trI n ss) s).2 ∧ 0 < (longR (trI n ss) s).2 := by
  have f := long_facts h0 s
  rcases fw_spec (wl n ss) (s.data.toList.take (longR (trI n ss) s).2) n with ⟨h1, _⟩ | ⟨j, h1, h2, h3, _⟩
  · left
    have h2 : (longR (trI n ss) s).1 = -1 := by rw [f.at_]; exact h1
    exact ⟨h2, f.iff.1 h2⟩
  · right
    rw [wo_wl h2] at h3
    have h4 : (longR (trI n ss) s).1 = j := by rw [f.at_]; exact h1
    refine ⟨j, h2, h4, h3, ?_⟩
    rcases Nat.eq_zero_or_pos (longR (trI n ss) s).2 with h | h
    · have := f.iff.2 h; omega
    · exact h
theorem bst_all {n : Nat} {ss : Nat → ByteArray} (h0 : bldE n ss = 0) (s : ByteArray) : bst s ss n = (longR (trI n ss) s).2 := by
  have f := long_facts h0 s
  have h1 := bst_le h0 s n (Nat.le_refl _)
  rcases long_word h0 s with ⟨_, h⟩ | ⟨j, hj, _, h3, h4⟩
  · omega
  · have hs : (ss j).size = (longR (trI n ss) s).2 := by
      rw [← sz_len, h3, List.length_take, sz_len]; have := f.le; omega
    have hp : isPre s (ss j) := ⟨by rw [hs]; exact f.le, by rw [hs]; exact h3.symm⟩
    have h5 := bst_mono s ss (j := j + 1) (k := n) (by omega)
    rw [bst_yes hp] at h5
    omega
theorem bst_bd {n : Nat} {ss : Nat → ByteArray} (h0 : bldE n ss = 0) (s : ByteArray) (k : Nat) (hk : k ≤ n) : bst s ss k ≤ s.size := Nat.le_trans (bst_le h0 s k hk) (long_facts h0 s).le
theorem fw_step (n : Nat) (ss : Nat → ByteArray) (k : Nat) (hk : k < n) (p : List UInt8) : fw (wl n ss) (k + 1) p = if fw (wl n ss) k p = -1 then (if (ss k).data.toList = p then (k : Int) else -1) else fw (wl n ss) k p := by
  rw [fw, wo_wl hk]
theorem fw_lt (n : Nat) (ss : Nat → ByteArray) (k : Nat) (p : List UInt8) : fw (wl n ss) k p < k := by
  rcases fw_spec (wl n ss) p k with ⟨h, _⟩ | ⟨j, h, h2, _⟩ <;> omega
/-- where a word of the list is found -/
theorem fw_of {n : Nat} (ss : Nat → ByteArray) {y : Nat} (hy : y < n) : ∃ z : Nat, z ≤ y ∧ fwW n ss (ss y).data.toList = z ∧ (ss z).data.toList = (ss y).data.toList := by
  rcases fw_spec (wl n ss) (ss y).data.toList n with ⟨_, h⟩ | ⟨j, h1, h2, h3, h4⟩
  · exact absurd (wo_wl hy) (h y hy)
  · refine ⟨j, ?_, h1, by rw [← wo_wl h2]; exact h3⟩
    rcases Nat.lt_or_ge y j with h | h
    · exact absurd (wo_wl hy) (h4 y h)
    · exact h
end Go.Proofs.YtmpiijipebngcaaGreatDoor.Tri

/- The turns that Compile answers, as Look takes them: plain facts. -/
import Derived.Test.YtdffopkljomipaaGreatDoorTableJ
namespace Go.Proofs.YtdffopkljomipaaGreatDoor
open Go Go.RowKit Go.Maps Go.Shelf
set_option linter.unusedVariables false

def tuF (T : List (Int × Of)) (j : Nat) : Tu := ⟨(T[j]?.getD (0, oZ)).1, (T[j]?.getD (0, oZ)).2.tot, (T[j]?.getD (0, oZ)).2.sv, (T[j]?.getD (0, oZ)).2.ab⟩
theorem tuF_at {T : List (Int × Of)} {j : Nat} (h : j < T.length) : tuF T j = ⟨T[j].1, T[j].2.tot, T[j].2.sv, T[j].2.ab⟩ := by
  unfold tuF
  rw [List.getElem?_eq_getElem h]
  rfl
theorem tu_own {W : World} {base : Nat} {v : Value} {T : List (Int × Of)} (h : W.ownsRow base 41 4 v T.length (trc T)) : ∃ a c, v = .slice a T.length c ∧ TuAt W a T.length (tuF T) ∧ T.length ≤ maxLen := by
  rcases h.2 with ⟨rfl, h0⟩ | ⟨g, cap, cur, rfl, _, hg, hn, hm, hs, ht⟩
  · exact ⟨none, 0, by rw [h0], .inl h0, by rw [h0]; exact Nat.zero_le _⟩
  · refine ⟨_, cap, rfl, .inr ⟨g, 0, rfl, fun j hj => ?_⟩, by omega⟩
    rw [tuF_at hj]
    obtain ⟨a0, a1, a2, a3⟩ := trc_at T hj
    have key : ∀ i u, j * 4 + i < T.length * 4 → (trc T)[j * 4 + i]? = some u → W.cell? ⟨g, 0 + j * 4 + i, none⟩ = some u := fun i u hi hu => by
      rw [← ht, List.getElem?_take_of_lt hi, Array.getElem?_toList] at hu
      rw [Nat.zero_add]
      simp [World.cell?, hg, hu]
    exact ⟨key 0 _ (by omega) a0, key 1 _ (by omega) a1, key 2 _ (by omega) a2, key 3 _ (by omega) a3⟩
theorem cmp_first {D : Dt} (hc : chkE D = 0) {k : Nat} (hk : k < D.nz) : (0, offR D k 0) ∈ cmpT D k := (cmp_inv hc hk).all 0 (Int.le_refl _) (by decide) (.inl rfl)
theorem cmp_isT {D : Dt} (hc : chkE D = 0) {k : Nat} (hk : k < D.nz) : isT (tuF (cmpT D k)) (cmpT D k).length := by
  have hi := cmp_inv hc hk
  have h0 := cmp_first hc hk
  obtain ⟨T, hT⟩ : ∃ T, T = cmpT D k := ⟨_, rfl⟩
  rw [← hT] at hi h0 ⊢
  have hup := List.pairwise_iff_getElem.1 hi.up
  have hl : 0 < T.length := List.length_pos_of_mem h0
  refine ⟨hl, ?_, ?_, fun i h1 h2 => ?_⟩
  · rw [tuF_at hl]
    show T[0].1 = 0
    obtain ⟨j, hj, he⟩ := List.getElem_of_mem h0
    by_cases hj0 : j = 0
    · subst hj0; rw [he]
    · have h1 := hup 0 j hl hj (by omega)
      have h2 := (hi.val T[0] (List.getElem_mem hl)).2.1
      rw [he] at h1
      simp only at h1
      omega
  · rw [tuF_at (by omega : T.length - 1 < T.length)]
    have := (hi.val T[T.length - 1] (List.getElem_mem _)).2.2.1
    show T[T.length - 1].1 < _
    omega
  · rw [tuF_at h2, tuF_at (by omega : i - 1 < T.length)]
    exact hup (i - 1) i (by omega) h2 (by omega)
theorem lokI_at {ts : Nat → Tu} {t : Int} (h0 : (ts 0).at_ ≤ t) : ∀ {n : Nat}, 0 < n → lokI ts t n < n ∧ (ts (lokI ts t n)).at_ ≤ t ∧ ∀ i, i < n → (ts i).at_ ≤ t → i ≤ lokI ts t n
  | 0, h => by omega
  | n + 1, _ => by
    unfold lokI
    split
    · rename_i h
      exact ⟨by omega, h, fun i hi _ => by omega⟩
    · rename_i h
      by_cases hn : 0 < n
      · obtain ⟨a, b, c⟩ := lokI_at h0 hn
        refine ⟨by omega, b, fun i hi ht => ?_⟩
        by_cases e : i = n
        · subst e; exact absurd ht h
        · exact c i (by omega) ht
      · obtain rfl : n = 0 := by omega
        exact absurd h0 h
theorem cmp_look {D : Dt} (hc : chkE D = 0) {k : Nat} (hk : k < D.nz) {t : Int} (ht : 0 ≤ t ∧ t < 1893456000) : lukE (tuF (cmpT D k)) (cmpT D k).length t = 0 ∧ lukO (tuF (cmpT D k)) (cmpT D k).length t = offR D k t := by
  have hT := cmp_isT hc hk
  have hi := cmp_inv hc hk
  have e0 : lukE (tuF (cmpT D k)) (cmpT D k).length t = 0 := by
    unfold lukE
    rw [if_pos ((isTB_iff _ _).2 hT), if_pos ht]
  refine ⟨e0, ?_⟩
  unfold lukO
  rw [if_pos e0]
  obtain ⟨T, hTT⟩ : ∃ T, T = cmpT D k := ⟨_, rfl⟩
  rw [← hTT] at hT hi ⊢
  obtain ⟨hn, hz, _, hr⟩ := hT
  obtain ⟨a, b, c⟩ := lokI_at (t := t) (by rw [hz]; exact ht.1) hn
  unfold lokO
  rw [tuF_at a] at b ⊢
  refine Tab.inv_look hi ht.1 (by omega) (List.getElem_mem a) b fun y hy hyt => ?_
  obtain ⟨j, hj, rfl⟩ := List.getElem_of_mem hy
  have h1 := c j hj (by rw [tuF_at hj]; exact hyt)
  have h2 := risT_le hr h1 a
  rw [tuF_at hj, tuF_at a] at h2
  exact h2
end Go.Proofs.YtdffopkljomipaaGreatDoor

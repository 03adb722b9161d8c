/- Contracts of package data: Zone's own literal, where a name leads nowhere. -/
import Derived.Test.YtbpdbggojgijiaaGreatDoorDataKAll
namespace Go.Proofs.YtbpdbggojgijiaaGreatDoor
open Go Go.RowKit
set_option linter.unusedVariables false
end Go.Proofs.YtbpdbggojgijiaaGreatDoor

/- Contracts of package data: Zone's own literal, where a name leads to a zone. -/
namespace Go.Proofs.YtbpdbggojgijiaaGreatDoor
open Go Go.RowKit
set_option linter.unusedVariables false
end Go.Proofs.YtbpdbggojgijiaaGreatDoor

/- The contract of data.Zone. -/
namespace Go.Proofs.YtbpdbggojgijiaaGreatDoor
open Go Go.RowKit
set_option linter.unusedVariables false
end Go.Proofs.YtbpdbggojgijiaaGreatDoor

/- What right data give: a zone's name leads to it, a link leads where its To leads, and that is a zone. -/
namespace Go.Proofs.YtbpdbggojgijiaaGreatDoor
open Go Go.RowKit Go.Maps
set_option linter.unusedVariables false

theorem chk_parts {D : Dt} (h : chkE D = 0) : few1 D ∧ dist (nms D) (D.nz + D.nl) ∧ lnk1 D ∧ lnk2 D = 0 := by
  unfold chkE at h
  split at h
  · rename_i hf
    split at h
    · split at h
      · split at h
        · rename_i hd
          split at h
          · split at h
            · split at h
              · split at h
                · rename_i h1
                  exact ⟨(few_all hf).1, hd, h1, h⟩
                · cases h
              · cases h
            · cases h
          · rename_i hr
            exact absurd h hr
        · cases h
      · cases h
    · cases h
  · cases h
theorem find_range {p : Nat → Bool} {j : Nat} : ∀ {n : Nat}, j < n → p j = true → (∀ i, i < j → p i = false) → (List.range n).find? p = some j
  | 0, h, _, _ => absurd h (Nat.not_lt_zero _)
  | n + 1, h, hp, ha => by
    rw [List.range_succ, List.find?_append]
    rcases Nat.lt_or_ge j n with hl | hg
    · rw [find_range hl hp ha]; rfl
    · obtain rfl : j = n := by omega
      rw [List.find?_eq_none.2 (fun x hx => by rw [ha x (List.mem_range.1 hx)]; decide)]
      simp [hp]
theorem idx_at {D : Dt} (hd : dist (nms D) (D.nz + D.nl)) {j : Nat} (hj : j < D.nz + D.nl) : idx D (nms D j) = some j := by
  unfold idx
  refine find_range hj (by simp) fun i hi => ?_
  exact beq_eq_false_iff_ne.2 fun e => hd j hj i hi e.symm
theorem zone_leads {D : Dt} (h : chkE D = 0) {j : Nat} (hj : j < D.nz) (k : Nat) : leadK D (k + 1) (D.zs j).nm = ((j : Int), 0) := by
  have e := idx_at (chk_parts h).2.1 (j := j) (by omega)
  have hn : nms D j = (D.zs j).nm := by unfold nms; rw [if_pos hj]
  rw [hn] at e
  unfold leadK
  simp only [e, if_pos hj]
theorem lead_more {D : Dt} : ∀ (k : Nat) (s : ByteArray), (leadK D k s).2 = 0 → leadK D (k + 1) s = leadK D k s
  | 0, s, h => by unfold leadK at h; exact absurd h (by decide)
  | k + 1, s, h => by
    cases e : idx D s with
    | none => rw [leadK.eq_2] at h; simp only [e] at h; exact absurd h (by decide)
    | some j =>
      by_cases hj : j < D.nz
      · unfold leadK; simp only [e, if_pos hj]
      · have e1 : leadK D (k + 1) s = leadK D k (D.ls (j - D.nz)).tgt := by rw [leadK.eq_2]; simp only [e, if_neg hj]
        have e2 : leadK D (k + 1 + 1) s = leadK D (k + 1) (D.ls (j - D.nz)).tgt := by rw [leadK.eq_2]; simp only [e, if_neg hj]
        rw [e1] at h
        rw [e1, e2]
        exact lead_more k _ h
theorem lead_in {D : Dt} : ∀ (k : Nat) (s : ByteArray), (leadK D k s).2 = 0 → 0 ≤ (leadK D k s).1 ∧ (leadK D k s).1 < D.nz
  | 0, s, h => by unfold leadK at h; exact absurd h (by decide)
  | k + 1, s, h => by
    cases e : idx D s with
    | none => rw [leadK.eq_2] at h; simp only [e] at h; exact absurd h (by decide)
    | some j =>
      by_cases hj : j < D.nz
      · have e1 : leadK D (k + 1) s = ((j : Int), 0) := by rw [leadK.eq_2]; simp only [e, if_pos hj]
        rw [e1]
        constructor <;> simp <;> omega
      · have e1 : leadK D (k + 1) s = leadK D k (D.ls (j - D.nz)).tgt := by rw [leadK.eq_2]; simp only [e, if_neg hj]
        rw [e1] at h ⊢
        exact lead_in k _ h
/-- a link leads to a zone, and where its To leads -/
theorem link_leads {D : Dt} (h : chkE D = 0) {j : Nat} (hj : j < D.nl) : (leadK D (D.nl + 1) (D.ls j).nm).2 = 0 ∧ leadK D (D.nl + 1) (D.ls j).tgt = leadK D (D.nl + 1) (D.ls j).nm := by
  obtain ⟨_, hd, _, h2⟩ := chk_parts h
  have h0 : (leadK D (D.nl + 1) (D.ls j).nm).2 = 0 := fstE_all h2 j hj
  refine ⟨h0, ?_⟩
  have e := idx_at hd (j := D.nz + j) (by omega)
  have hn : nms D (D.nz + j) = (D.ls j).nm := by unfold nms; rw [if_neg (by omega)]; congr 1; congr 1; omega
  rw [hn] at e
  have e1 : leadK D (D.nl + 1) (D.ls j).nm = leadK D D.nl (D.ls j).tgt := by
    rw [leadK.eq_2]
    simp only [e, if_neg (show ¬ D.nz + j < D.nz by omega)]
    congr 1; congr 1; congr 1; omega
  rw [e1] at h0 ⊢
  exact lead_more _ _ h0
theorem zone_told {D : Dt} (h : chkE D = 0) {j : Nat} (hj : j < D.nz) : zonR D (D.zs j).nm = j ∧ zonE D (D.zs j).nm = 0 := by
  have e := zone_leads h hj D.nl
  unfold zonR zonE
  rw [if_pos h, if_pos h, e]
  exact ⟨rfl, rfl⟩
theorem link_told {D : Dt} (h : chkE D = 0) {j : Nat} (hj : j < D.nl) : zonE D (D.ls j).nm = 0 ∧ zonE D (D.ls j).tgt = 0 ∧ zonR D (D.ls j).tgt = zonR D (D.ls j).nm ∧ 0 ≤ zonR D (D.ls j).nm ∧ zonR D (D.ls j).nm < D.nz := by
  obtain ⟨h0, e⟩ := link_leads h hj
  have h1 : (leadK D (D.nl + 1) (D.ls j).tgt).2 = 0 := by rw [e]; exact h0
  have hi := lead_in _ _ h0
  unfold zonR zonE
  rw [if_pos h, if_pos h, if_pos h, if_pos h, if_pos h0, if_pos h1, e]
  exact ⟨h0, h0, rfl, hi.1, hi.2⟩
end Go.Proofs.YtbpdbggojgijiaaGreatDoor

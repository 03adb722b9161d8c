/- Data with one link more: what is not its name leads where it led. -/
import Derived.Test.YtcdokhjmpkcpnacDoorLinksM
namespace Go.Proofs.YtcdokhjmpkcpnacDoor
open Go Go.RowKit Go.Maps
set_option linter.unusedVariables false

/-- data with one link more, which lie at a, up to c -/
def mor (D : Dt) (x : Lk) (a : Option Addr) (c : Nat) : Dt := ⟨D.sa, D.ns, D.sc, D.ss, D.za, D.nz, D.zc, D.zs, a, D.nl + 1, c, fun j => if j < D.nl then D.ls j else x⟩
theorem ba_same {s t : ByteArray} (h : s.data.toList = t.data.toList) : s = t := by
  cases s; cases t
  congr 1
  exact Array.toList_inj.1 h
theorem nms_mor {D : Dt} (x : Lk) (a : Option Addr) (c : Nat) {j : Nat} (hj : j < D.nz + D.nl) : nms (mor D x a c) j = nms D j := by
  unfold nms mor
  by_cases h : j < D.nz
  · simp only [if_pos h]
  · simp only [if_neg h, if_pos (show j - D.nz < D.nl by omega)]
theorem nms_new {D : Dt} (x : Lk) (a : Option Addr) (c : Nat) : nms (mor D x a c) (D.nz + D.nl) = x.nm := by
  unfold nms mor
  simp only [if_neg (show ¬ D.nz + D.nl < D.nz by omega), if_neg (show ¬ D.nz + D.nl - D.nz < D.nl by omega)]
theorem find_same {p q : Nat → Bool} : ∀ {n : Nat}, (∀ j, j < n → p j = q j) → (List.range n).find? p = (List.range n).find? q
  | 0, _ => rfl
  | n + 1, h => by
    rw [List.range_succ, List.find?_append, List.find?_append, find_same (fun j hj => h j (by omega))]
    congr 1
    simp [h n (by omega)]
theorem idx_mor {D : Dt} (x : Lk) (a : Option Addr) (c : Nat) {s : ByteArray} (hs : s.data.toList ≠ x.nm.data.toList) : idx (mor D x a c) s = idx D s := by
  have e : (mor D x a c).nz + (mor D x a c).nl = D.nz + D.nl + 1 := rfl
  unfold idx
  rw [e, List.range_succ, List.find?_append]
  have h1 : (List.range (D.nz + D.nl)).find? (fun j => (nms (mor D x a c) j).data.toList == s.data.toList) = (List.range (D.nz + D.nl)).find? (fun j => (nms D j).data.toList == s.data.toList) := find_same fun j hj => by rw [nms_mor x a c hj]
  have h2 : [D.nz + D.nl].find? (fun j => (nms (mor D x a c) j).data.toList == s.data.toList) = none := by
    have : ((nms (mor D x a c) (D.nz + D.nl)).data.toList == s.data.toList) = false := by rw [nms_new]; exact beq_eq_false_iff_ne.2 fun e => hs e.symm
    rw [List.find?_cons, this]; rfl
  rw [h1, h2, Option.or_none]
theorem idx_gone {D : Dt} {x : Lk} {a : Option Addr} {c : Nat} (hd : dist (nms (mor D x a c)) (D.nz + D.nl + 1)) : idx D x.nm = none := by
  cases h : idx D x.nm with
  | none => rfl
  | some j =>
    obtain ⟨h1, h2⟩ := idx_some h
    have := hd (D.nz + D.nl) (by omega) j h1
    rw [nms_mor x a c h1, nms_new] at this
    exact absurd h2.symm this
theorem lead_mor {D : Dt} {x : Lk} (a : Option Addr) (c : Nat) (h1 : lnk1 D) (hx : idx D x.nm = none) : ∀ (k : Nat) (s : ByteArray), s.data.toList ≠ x.nm.data.toList → leadK (mor D x a c) k s = leadK D k s
  | 0, s, h => rfl
  | k + 1, s, h => by
    have e := idx_mor (D := D) x a c h
    rw [leadK.eq_2, leadK.eq_2, e]
    cases hi : idx D s with
    | none => rfl
    | some j =>
      have hj := (idx_some hi).1
      show (if j < D.nz then ((j : Int), (0 : Int)) else leadK (mor D x a c) k (if j - D.nz < D.nl then D.ls (j - D.nz) else x).to) = _
      by_cases hz : j < D.nz
      · simp only [if_pos hz]
      · simp only [if_neg hz, if_pos (show j - D.nz < D.nl by omega)]
        refine lead_mor a c h1 hx k _ fun e2 => ?_
        have := h1 (j - D.nz) (by omega)
        rw [ba_same e2, hx] at this
        cases this
theorem lead_self {D : Dt} {s : ByteArray} {j : Nat} (hi : idx D s = some j) (hj : ¬ j < D.nz) (ht : (D.ls (j - D.nz)).to = s) : ∀ k, leadK D k s = (0, 7)
  | 0 => rfl
  | k + 1 => by
    rw [leadK.eq_2, hi]
    simp only [if_neg hj, ht]
    exact lead_self hi hj ht k
theorem lead_enough {D : Dt} (h : chkE D = 0) (s : ByteArray) : leadK D (D.nl + 1 + 1) s = leadK D (D.nl + 1) s := by
  cases hi : idx D s with
  | none => rw [leadK.eq_2, leadK.eq_2, hi]
  | some j =>
    obtain ⟨h1, h2⟩ := idx_some hi
    refine lead_more _ _ ?_
    by_cases hz : j < D.nz
    · rw [leadK.eq_2, hi]; simp only [if_pos hz]
    · have := (link_leads h (j := j - D.nz) (by omega)).1
      have hn : (D.ls (j - D.nz)).nm = s := by
        unfold nms at h2
        rw [if_neg hz] at h2
        exact ba_same h2
      rwa [hn] at this
/-- one link more changes nothing of all others, and leads where it says -/
theorem mor_told {D : Dt} {x : Lk} {a : Option Addr} {c : Nat} (h : chkE D = 0) (h2 : chkE (mor D x a c) = 0) :
    (∀ s : ByteArray, s.data.toList ≠ x.nm.data.toList → zonR (mor D x a c) s = zonR D s ∧ zonE (mor D x a c) s = zonE D s) ∧ zonE (mor D x a c) x.nm = 0 ∧ zonE D x.to = 0 ∧ zonR (mor D x a c) x.nm = zonR D x.to := by
  have hx : idx D x.nm = none := idx_gone (chk_parts h2).2.1
  have key : ∀ s : ByteArray, s.data.toList ≠ x.nm.data.toList → zonR (mor D x a c) s = zonR D s ∧ zonE (mor D x a c) s = zonE D s := fun s hs => by
    have e : leadK (mor D x a c) ((mor D x a c).nl + 1) s = leadK D (D.nl + 1) s := (lead_mor a c (chk_parts h).2.2.1 hx _ s hs).trans (lead_enough h s)
    unfold zonR zonE
    rw [if_pos h, if_pos h, if_pos h2, if_pos h2, e]
    exact ⟨rfl, rfl⟩
  have hl : (mor D x a c).ls D.nl = x := if_neg (Nat.lt_irrefl _)
  obtain ⟨l1, l2, l3, l4, l5⟩ := link_told h2 (j := D.nl) (Nat.lt_succ_self _)
  rw [hl] at l1 l2 l3 l4 l5
  have hne : x.to.data.toList ≠ x.nm.data.toList := fun e => by
    have e := ba_same e
    have hi := idx_at (chk_parts h2).2.1 (j := D.nz + D.nl) (Nat.lt_succ_self _)
    rw [nms_new] at hi
    have hs : ((mor D x a c).ls (D.nz + D.nl - (mor D x a c).nz)).to = x.nm := by
      show (if D.nz + D.nl - D.nz < D.nl then D.ls (D.nz + D.nl - D.nz) else x).to = x.nm
      rw [if_neg (by omega)]; exact e
    have := lead_self hi (show ¬ D.nz + D.nl < D.nz by omega) hs ((mor D x a c).nl + 1)
    have l := l1
    unfold zonE at l
    rw [if_pos h2, this] at l
    cases l
  obtain ⟨k1, k2⟩ := key x.to hne
  exact ⟨key, l1, k2 ▸ l2, by rw [← l3, k1]⟩
theorem mor_fits {D : Dt} {x : Lk} {a : Option Addr} {c : Nat} (hF : D.fits) (hn : D.nl + 1 ≤ maxLen) (h1 : x.nm.size ≤ maxLen) (h2 : x.to.size ≤ maxLen) : (mor D x a c).fits := by
  refine ⟨hF.ns, hF.nz, hn, hF.snm, hF.sn, hF.lt, hF.znm, hF.zn, hF.fm, fun j hj => ?_, fun j hj => ?_⟩
  · show (if j < D.nl then D.ls j else x).nm.size ≤ maxLen
    split
    · rename_i h; exact hF.lnm j h
    · exact h1
  · show (if j < D.nl then D.ls j else x).to.size ≤ maxLen
    split
    · rename_i h; exact hF.lto j h
    · exact h2
end Go.Proofs.YtcdokhjmpkcpnacDoor

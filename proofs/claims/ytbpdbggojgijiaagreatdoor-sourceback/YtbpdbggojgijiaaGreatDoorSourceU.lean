/- Plain: what data.Check answers hangs on what the lists hold alone. -/
import Derived.Test.YtbpdbggojgijiaaGreatDoorSourceT
namespace Go.Proofs.YtbpdbggojgijiaaGreatDoor.Src
open Go
set_option linter.unusedVariables false

theorem fst_congr {f g : Nat → Int} : ∀ {n : Nat}, (∀ i, i < n → f i = g i) → fstE f n = fstE g n
  | 0, _ => rfl
  | n + 1, h => by
    unfold fstE
    rw [fst_congr (n := n) fun i hi => h i (by omega), h n (by omega)]
theorem find_congr {α : Type} {p q : α → Bool} : ∀ {l : List α}, (∀ x ∈ l, p x = q x) → l.find? p = l.find? q
  | [], _ => rfl
  | a :: l, h => by
    rw [List.find?_cons, List.find?_cons, h a (by simp), find_congr fun x hx => h x (by simp [hx])]
theorem catL_congr {pn qn : Nat → Nat} {pf qf : Nat → Nat → ByteArray} : ∀ {k : Nat}, (∀ i, i < k → pn i = qn i) → (∀ i, i < k → ∀ j, j < qn i → pf i j = qf i j) → catL pn pf k = catL qn qf k
  | 0, _, _ => rfl
  | k + 1, h1, h2 => by
    unfold catL
    rw [catL_congr (fun i hi => h1 i (by omega)) (fun i hi => h2 i (by omega)), h1 k (by omega)]
    congr 1
    exact List.map_congr_left fun j hj => h2 k (by omega) j (List.mem_range.1 hj)
theorem dist_same {f g : Nat → ByteArray} {n : Nat} (hfg : ∀ j, j < n → f j = g j) : dist f n ↔ dist g n := by
  unfold dist
  refine forall_congr' fun i => forall_congr' fun hi => forall_congr' fun j => forall_congr' fun hj => ?_
  rw [hfg i hi, hfg j (by omega)]
theorem frm_same {f g : Nat → Er} {n : Nat} (hfg : ∀ j, j < n → f j = g j) : ∀ i, i ≤ n → frm f i = frm g i
  | 0, _ => rfl
  | i + 1, hi => by
    show (f i).un = (g i).un
    rw [hfg i (by omega)]
section
variable {D E : Dt} (h : SameDt D E)
include h
theorem few_same : few E = few D := by
  unfold few
  have e1 : few1 E ↔ few1 D := by unfold few1; rw [h.ns, h.nz, h.nl]
  have e2 : few2 E ↔ few2 D := by
    unfold few2
    rw [h.ns]
    exact forall_congr' fun j => forall_congr' fun hj => by rw [(h.sets j hj).2.1]
  have e3 : few3 E ↔ few3 D := by
    unfold few3
    rw [h.nz]
    exact forall_congr' fun j => forall_congr' fun hj => by rw [(h.zones j hj).2.1]
  rw [decide_eq_decide.2 e1, decide_eq_decide.2 e2, decide_eq_decide.2 e3]
theorem names_same : allN E = allN D := by
  unfold allN
  refine catL_congr (fun i _ => by unfold n4; rw [h.ns, h.nz, h.nl]) fun i hi j hj => ?_
  unfold f4
  unfold n4 at hj
  have h4 : i = 0 ∨ i = 1 ∨ i = 2 ∨ i = 3 := by omega
  rcases h4 with rfl | rfl | rfl | rfl
  · exact (h.sets j hj).1
  · exact (h.zones j hj).1
  · exact congrArg Lk.nm (h.links j hj)
  · exact congrArg Lk.to (h.links j hj)
theorem nms_same (j : Nat) (hj : j < D.nz + D.nl) : nms E j = nms D j := by
  unfold nms
  rw [h.nz]
  by_cases e : j < D.nz
  · rw [if_pos e, if_pos e]
    exact (h.zones j e).1
  · rw [if_neg e, if_neg e]
    exact congrArg Lk.nm (h.links _ (by omega))
theorem idx_same (s : ByteArray) : idx E s = idx D s := by
  unfold idx
  rw [h.nz, h.nl]
  exact find_congr fun j hj => by rw [nms_same h j (List.mem_range.1 hj)]
theorem lead_same : ∀ (k : Nat) (s : ByteArray), leadK E k s = leadK D k s
  | 0, _ => rfl
  | k + 1, s => by
    unfold leadK
    rw [idx_same h]
    cases hi : idx D s with
    | none => rfl
    | some j =>
      have hj := (idx_some hi).1
      simp only
      rw [h.nz]
      by_cases e : j < D.nz
      · rw [if_pos e, if_pos e]
      · rw [if_neg e, if_neg e, lead_same k, h.links _ (by omega)]
theorem rulE_same : rulE E = rulE D := by
  unfold rulE
  rw [h.ns]
  refine fst_congr fun j hj => ?_
  unfold setE
  rw [(h.sets j hj).2.1]
  exact fst_congr fun i hi => by rw [(h.sets j hj).2.2 i hi]
theorem ers_same : ersOK E ↔ ersOK D := by
  unfold ersOK
  rw [h.nz]
  refine forall_congr' fun j => forall_congr' fun hj => ?_
  obtain ⟨h1, h2, h3⟩ := h.zones j hj
  unfold zoneOK
  rw [h2, h.ns, frm_same h3 _ (Nat.le_refl _)]
  refine and_congr ?_ Iff.rfl
  refine forall_congr' fun i => forall_congr' fun hi => ?_
  rw [h3 i hi, frm_same h3 i (by omega)]
theorem fmt_same : fmts E ↔ fmts D := by
  unfold fmts
  rw [h.nz]
  refine forall_congr' fun j => forall_congr' fun hj => ?_
  obtain ⟨h1, h2, h3⟩ := h.zones j hj
  rw [h2]
  exact forall_congr' fun i => forall_congr' fun hi => by rw [h3 i hi]
theorem lnk1_same : lnk1 E ↔ lnk1 D := by
  unfold lnk1
  rw [h.nl]
  exact forall_congr' fun j => forall_congr' fun hj => by rw [idx_same h, h.links j hj]
theorem lnk2_same : lnk2 E = lnk2 D := by
  unfold lnk2
  rw [h.nl]
  exact fst_congr fun j hj => by rw [lead_same h, h.links j hj]
/-- the same data are right, or wrong, alike -/
theorem chk_same : chkE E = chkE D := by
  unfold chkE
  have e1 : namesOK E ↔ namesOK D := by unfold namesOK; rw [names_same h]
  have e2 : dist (fun j => (E.ss j).nm) E.ns ↔ dist (fun j => (D.ss j).nm) D.ns := by
    rw [h.ns]
    exact dist_same fun j hj => (h.sets j hj).1
  have e3 : dist (nms E) (E.nz + E.nl) ↔ dist (nms D) (D.nz + D.nl) := by
    rw [h.nz, h.nl]
    exact dist_same fun j hj => nms_same h j hj
  simp only [few_same h, e1, e2, e3, rulE_same h, ers_same h, fmt_same h, lnk1_same h, lnk2_same h]
end
theorem range_map_inj {α : Type} {f g : Nat → α} {n m : Nat} (h : (List.range n).map f = (List.range m).map g) : n = m ∧ ∀ j, j < m → f j = g j := by
  have hl : n = m := by simpa using congrArg List.length h
  subst hl
  refine ⟨rfl, fun j hj => ?_⟩
  have := congrArg (fun l => l[j]?) h
  simpa [hj] using this
theorem bytes_inj {a b : ByteArray} (h : a.data.toList = b.data.toList) : a = b := by
  cases a; cases b
  simp only at h
  rw [Array.toList_inj.1 h]
/-- what is told alike as lists is the same -/
theorem same_pd {D E : Dt} (h : pdOf E = pdOf D) : SameDt D E := by
  unfold pdOf at h
  injection h with h1 h2 h3
  obtain ⟨a1, a2⟩ := range_map_inj h1
  obtain ⟨b1, b2⟩ := range_map_inj h2
  obtain ⟨c1, c2⟩ := range_map_inj h3
  refine ⟨a1, fun j hj => ?_, b1, fun j hj => ?_, c1, fun j hj => ?_⟩
  · have := a2 j hj
    injection this with e1 e2
    obtain ⟨r1, r2⟩ := range_map_inj e2
    exact ⟨bytes_inj e1, r1, r2⟩
  · have := b2 j hj
    injection this with e1 e2
    obtain ⟨r1, r2⟩ := range_map_inj e2
    exact ⟨bytes_inj e1, r1, r2⟩
  · have := c2 j hj
    injection this with e1 e2
    have k1 := bytes_inj e1
    have k2 := bytes_inj e2
    cases hE : E.ls j
    cases hD : D.ls j
    rw [hE, hD] at k1 k2
    simp only at k1 k2
    rw [k1, k2]
end Go.Proofs.YtbpdbggojgijiaaGreatDoor.Src

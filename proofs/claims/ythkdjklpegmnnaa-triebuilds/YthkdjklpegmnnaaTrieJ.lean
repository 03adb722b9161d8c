/- A trie that a call has made: how it lies, and how it grows. -/
import Derived.Test.YthkdjklpegmnnaaTrieI
namespace Go.Proofs.Ythkdjklpegmnnaa.Tri
open Go Go.RowKit Go.Lib Go.Maps
set_option linter.unusedVariables false

/-- two rows that share no block -/
def ap (u v : Value) : Prop := ∀ g, u.ownBlock = some g → v.ownBlock ≠ some g
theorem ap_symm {u v : Value} (h : ap u v) : ap v u := fun g hg hx => h g hx hg
theorem ap_nil (u : Value) : ap u (.slice none 0 0) := fun g _ hx => by simp [Value.ownBlock] at hx
theorem own_lt {w : World} {base n size : Nat} {e : TypeId} {v : Value} {xs : List Value} (h : w.ownsRow base e size v n xs) {g : Nat} (hg : v.ownBlock = some g) : base ≤ g ∧ g < w.heap.size := by
  rcases h.2 with ⟨rfl, _⟩ | ⟨g', cap, cur, rfl, hb, hh, _⟩
  · simp [Value.ownBlock] at hg
  · obtain rfl : g' = g := by simpa [Value.ownBlock] using hg
    exact ⟨hb, (Array.getElem?_eq_some_iff.1 hh).1⟩
theorem own_far {w w' : World} {base n size : Nat} {e : TypeId} {u v : Value} {xs : List Value} (h : w.ownsRow base e size u n xs) (hg : w.grownBy w' v.ownBlock) (ha : ap u v) : w'.ownsRow base e size u n xs :=
  h.kept hg (by
    cases hu : u.ownBlock with
    | none => exact .inl rfl
    | some g => exact .inr (fun e => ha g hu e.symm))
theorem own_on {w w' : World} {base n size : Nat} {e : TypeId} {v : Value} {xs : List Value} (h : w.ownsRow base e size v n xs) (hb : Below w.heap.size w w') : w'.ownsRow base e size v n xs :=
  ⟨h.1, h.2.imp id fun ⟨g, cap, cur, h1, h2, h3, h4⟩ => ⟨g, cap, cur, h1, h2, (hb.block g (Array.getElem?_eq_some_iff.1 h3).1).trans h3, h4⟩⟩
/-- a node's cells -/
def ncell (vs : Nat → Value) (t : List Nd) (j : Nat) : Value := if j % 2 = 0 then vs (j / 2) else .int .i64 (nod t (j / 2)).wd
def ncells (vs : Nat → Value) (t : List Nd) (n : Nat) : List Value := (List.range (n * 2)).map (ncell vs t)
theorem ncells_len (vs : Nat → Value) (t : List Nd) (n : Nat) : (ncells vs t n).length = n * 2 := by simp [ncells]
theorem ncells_at (vs : Nat → Value) (t : List Nd) {n j : Nat} (h : j < n * 2) : (ncells vs t n)[j]? = some (ncell vs t j) := by simp [ncells, h]
theorem ncells_succ (vs : Nat → Value) (t : List Nd) (n : Nat) : ncells vs t (n + 1) = ncells vs t n ++ [vs n, .int .i64 (nod t n).wd] := by
  unfold ncells
  rw [show (n + 1) * 2 = n * 2 + 1 + 1 by omega, List.range_succ, List.range_succ, List.map_append, List.map_append, List.append_assoc]
  have e1 : ncell vs t (n * 2) = vs n := by unfold ncell; rw [if_pos (by omega), show n * 2 / 2 = n by omega]
  have e2 : ncell vs t (n * 2 + 1) = .int .i64 (nod t n).wd := by unfold ncell; rw [if_neg (by omega), show (n * 2 + 1) / 2 = n by omega]
  simp [e1, e2]
theorem ncells_congr {vs vs' : Nat → Value} {t t' : List Nd} {n : Nat} (h : ∀ j, j < n → vs j = vs' j) (k : ∀ j, j < n → (nod t j).wd = (nod t' j).wd) : ncells vs t n = ncells vs' t' n := by
  unfold ncells
  apply List.map_congr_left
  intro j hj
  have hj := List.mem_range.1 hj
  unfold ncell
  split
  · exact h _ (by omega)
  · rw [k _ (by omega)]
theorem ncells_set0 (vs : Nat → Value) (t t' : List Nd) {n a : Nat} (v : Value) (ha : a < n) (k : ∀ j, j < n → (nod t j).wd = (nod t' j).wd) : (ncells vs t n).set (a * 2) v = ncells (fun j => if j = a then v else vs j) t' n := by
  apply List.ext_getElem?
  intro j
  by_cases hj : j < n * 2
  · rw [ncells_at _ _ hj, List.getElem?_set]
    rw [ncells_len]
    by_cases e : a * 2 = j
    · subst e
      rw [if_pos rfl, if_pos hj]
      unfold ncell
      rw [if_pos (by omega), show a * 2 / 2 = a by omega]
      simp
    · rw [if_neg e, ncells_at _ _ hj]
      unfold ncell
      by_cases h2 : j % 2 = 0
      · rw [if_pos h2, if_pos h2]
        show _ = some (if j / 2 = a then v else vs (j / 2))
        rw [if_neg (by omega)]
      · rw [if_neg h2, if_neg h2, k _ (by omega)]
  · rw [List.getElem?_eq_none (by rw [List.length_set, ncells_len]; omega), List.getElem?_eq_none (by rw [ncells_len]; omega)]
theorem ncells_set1 (vs : Nat → Value) (t t' : List Nd) {n a : Nat} (x : Int) (ha : a < n) (k : ∀ j, j < n → (nod t' j).wd = if j = a then x else (nod t j).wd) : (ncells vs t n).set (a * 2 + 1) (.int .i64 x) = ncells vs t' n := by
  apply List.ext_getElem?
  intro j
  by_cases hj : j < n * 2
  · rw [ncells_at _ _ hj, List.getElem?_set]
    rw [ncells_len]
    by_cases e : a * 2 + 1 = j
    · subst e
      rw [if_pos rfl, if_pos hj]
      unfold ncell
      rw [if_neg (by omega), show (a * 2 + 1) / 2 = a by omega, k a ha, if_pos rfl]
    · rw [if_neg e, ncells_at _ _ hj]
      unfold ncell
      by_cases h2 : j % 2 = 0
      · rw [if_pos h2, if_pos h2]
      · rw [if_neg h2, if_neg h2, k _ (by omega), if_neg (by omega)]
  · rw [List.getElem?_eq_none (by rw [List.length_set, ncells_len]; omega), List.getElem?_eq_none (by rw [ncells_len]; omega)]
/-- a trie of the call's own: the nodes' row v, each node's edges vs -/
structure OwT (w : World) (base : Nat) (v : Value) (vs : Nat → Value) (t : List Nd) : Prop where
  row : w.ownsRow base 47 2 v t.length (ncells vs t t.length)
  es : ∀ j, j < t.length → w.ownsRow base 52 2 (vs j) (nod t j).es.length (ecells (nod t j).es)
  av : ∀ j, j < t.length → ap (vs j) v
  aa : ∀ i j, i < t.length → j < t.length → i ≠ j → ap (vs i) (vs j)
theorem OwT.on {w w' : World} {base : Nat} {v : Value} {vs : Nat → Value} {t : List Nd} (h : OwT w base v vs t) (hb : Below w.heap.size w w') : OwT w' base v vs t :=
  ⟨own_on h.row hb, fun j hj => own_on (h.es j hj) hb, h.av, h.aa⟩
/-- what of it a walk reads -/
theorem own_edl {w : World} {base : Nat} {v : Value} {es : List (UInt8 × Int)} (h : w.ownsRow base 52 2 v es.length (ecells es)) : ∃ ea ec, v = .slice ea es.length ec ∧ es.length ≤ ec ∧ EdL w ea es := by
  rcases h.2 with ⟨rfl, h0⟩ | ⟨g, cap, cur, rfl, hb, hg, hnc, hcm, hcs, htake⟩
  · exact ⟨none, 0, by rw [h0], by omega, .inl h0⟩
  · refine ⟨_, cap, rfl, hnc, .inr ⟨g, 0, rfl, fun j hj => ?_⟩⟩
    have hd := ecells_drop es j
    have hc : ∀ o, o < es.length * 2 → w.cell? ⟨g, o, none⟩ = (ecells es)[o]? := fun o ho => h.cellAt o ho
    have hx : es.drop j = es[j] :: es.drop (j + 1) := List.drop_eq_getElem_cons hj
    rw [hx, ecells_cons, eC_at hj] at hd
    have g0 : (ecells es)[j * 2]? = some (.int .u8 ((eC es j).toNat : Int)) := by
      have := congrArg (fun l => l[0]?) hd
      simpa [List.getElem?_drop] using this
    have g1 : (ecells es)[j * 2 + 1]? = some (.int .i64 (eT es j)) := by
      have := congrArg (fun l => l[1]?) hd
      simpa [List.getElem?_drop] using this
    rw [Nat.zero_add, hc _ (by omega), hc _ (by omega)]
    exact ⟨g0, g1⟩
theorem OwT.slice {w : World} {base : Nat} {v : Value} {vs : Nat → Value} {t : List Nd} (h : OwT w base v vs t) (h0 : 0 < t.length) : ∃ g cap, v = .slice (some ⟨g, 0, none⟩) t.length cap ∧ base ≤ g ∧ g < w.heap.size ∧ t.length ≤ cap ∧ (∀ j, j < t.length → w.cell? ⟨g, j * 2, none⟩ = some (vs j) ∧ w.cell? ⟨g, j * 2 + 1, none⟩ = some (.int .i64 (nod t j).wd)) ∧ ∀ o, w.frozen? ⟨g, o, none⟩ = false := by
  rcases h.row.2 with ⟨_, h1⟩ | ⟨g, cap, cur, rfl, hb, hg, hnc, hcm, hcs, htake⟩
  · omega
  · refine ⟨g, cap, rfl, hb, (Array.getElem?_eq_some_iff.1 hg).1, hnc, fun j hj => ?_, fun o => h.row.frozenAt o⟩
    rw [h.row.cellAt _ (by omega), h.row.cellAt _ (by omega), ncells_at _ _ (by omega), ncells_at _ _ (by omega)]
    unfold ncell
    rw [if_pos (by omega), if_neg (by omega), show j * 2 / 2 = j by omega, show (j * 2 + 1) / 2 = j by omega]
    exact ⟨rfl, rfl⟩
theorem OwT.trl {w : World} {base : Nat} {v : Value} {vs : Nat → Value} {t : List Nd} (h : OwT w base v vs t) (h0 : 0 < t.length) : ∃ a cap, v = .slice a t.length cap ∧ t.length ≤ cap ∧ TrL w a t := by
  obtain ⟨g, cap, hv, _, _, hc, hcells, _⟩ := h.slice h0
  refine ⟨_, cap, hv, hc, .inr ⟨g, 0, rfl, fun j hj => ?_⟩⟩
  obtain ⟨ea, ec, e1, _, e2⟩ := own_edl (h.es j hj)
  have := hcells j hj
  rw [e1] at this
  exact ⟨ea, ec, by rw [Nat.zero_add]; exact this.1, by rw [Nat.zero_add]; exact this.2, e2⟩
/-- an edge more, stored -/
theorem OwT.edge {w w1 : World} {base g cap : Nat} {vs : Nat → Value} {t : List Nd} {a : Nat} {u : Value} {es' : List (UInt8 × Int)} (h : OwT w base (.slice (some ⟨g, 0, none⟩) t.length cap) vs t) (ha : a < t.length) (hg : w.grownBy w1 (vs a).ownBlock)
    (hu : w1.ownsRow base 52 2 u es'.length (ecells es')) (hx : u.ownBlock = (vs a).ownBlock ∨ ∃ g, u.ownBlock = some g ∧ w.heap.size ≤ g) :
    OwT (w1.setCell ⟨g, a * 2, none⟩ u) base (.slice (some ⟨g, 0, none⟩) t.length cap) (fun j => if j = a then u else vs j) (t.set a ⟨es', (nod t a).wd⟩) := by
  have hrow := own_far h.row hg (ap_symm (h.av a ha))
  obtain ⟨s1, s2⟩ := hrow.stored (a * 2) u
  have hlen : (t.set a ⟨es', (nod t a).wd⟩).length = t.length := by simp
  have hwd : ∀ j, j < t.length → (nod t j).wd = (nod (t.set a ⟨es', (nod t a).wd⟩) j).wd := fun j hj => by
    by_cases e : j = a
    · subst e; rw [nod_set_same _ ha]
    · rw [nod_set_other _ e]
  have hau : ap u (.slice (some ⟨g, 0, none⟩) t.length cap) := fun k hk hx2 => by
    rcases hx with h1 | ⟨g2, h1, h2⟩
    · exact h.av a ha k (by rw [← h1]; exact hk) hx2
    · have := (own_lt h.row hx2).2
      rw [h1] at hk
      cases hk
      omega
  have hav : ∀ j, j < t.length → j ≠ a → ap u (vs j) := fun j hj hne k hk hx2 => by
    rcases hx with h1 | ⟨g2, h1, h2⟩
    · exact h.aa a j ha hj (Ne.symm hne) k (by rw [← h1]; exact hk) hx2
    · have := (own_lt (h.es j hj) hx2).2
      rw [h1] at hk
      cases hk
      omega
  refine ⟨?_, fun j hj => ?_, fun j hj => ?_, fun i j hi hj hne => ?_⟩
  · rw [hlen, ← ncells_set0 vs t _ u ha hwd]
    exact s1
  · rw [hlen] at hj
    by_cases e : j = a
    · subst e
      rw [nod_set_same _ ha]
      simp only [if_true]
      exact own_far (v := .slice (some ⟨g, 0, none⟩) t.length cap) hu s2 hau
    · rw [nod_set_other _ e]
      simp only [if_neg e]
      exact own_far (v := .slice (some ⟨g, 0, none⟩) t.length cap) (own_far (h.es j hj) hg (h.aa j a hj ha e)) s2 (h.av j hj)
  · rw [hlen] at hj
    by_cases e : j = a
    · simp only [if_pos e]; exact hau
    · simp only [if_neg e]; exact h.av j hj
  · rw [hlen] at hi hj
    by_cases e : i = a
    · simp only [if_pos e]
      rw [if_neg (fun h => hne (by rw [e, h]))]
      exact hav j hj (fun h => hne (by rw [e, h]))
    · simp only [if_neg e]
      by_cases e2 : j = a
      · simp only [if_pos e2]; exact ap_symm (hav i hi e)
      · simp only [if_neg e2]; exact h.aa i j hi hj hne
/-- a node more -/
theorem OwT.node {w w1 : World} {base : Nat} {v : Value} {vs : Nat → Value} {t : List Nd} {g cap H : Nat} (h : OwT w base v vs t) (hg : w.grownBy w1 v.ownBlock)
    (hu : w1.ownsRow base 47 2 (.slice (some ⟨g, 0, none⟩) (t.length + 1) cap) (t.length + 1) (ncells vs t t.length ++ [.slice none 0 0, .int .i64 (-1)])) (hx : v.ownBlock = some g ∨ g = H) (hH : w.heap.size ≤ H) :
    OwT w1 base (.slice (some ⟨g, 0, none⟩) (t.length + 1) cap) (fun j => if j = t.length then .slice none 0 0 else vs j) (t ++ [⟨[], -1⟩]) := by
  have hn : ∀ j, j < t.length → nod (t ++ [⟨[], -1⟩]) j = nod t j := fun j hj => by
    have e : (t ++ [⟨[], -1⟩])[j]?.getD ⟨[], -1⟩ = t[j]?.getD ⟨[], -1⟩ := by rw [List.getElem?_append_left hj]
    exact e
  have hl : nod (t ++ [⟨[], -1⟩]) t.length = ⟨[], -1⟩ := by
    have e : (t ++ [⟨[], -1⟩])[t.length]?.getD ⟨[], -1⟩ = (⟨[], -1⟩ : Nd) := by simp
    exact e
  have hlen : (t ++ [⟨[], -1⟩] : List Nd).length = t.length + 1 := by simp
  have hap : ∀ j, j < t.length → ap (vs j) (.slice (some ⟨g, 0, none⟩) (t.length + 1) cap) := fun j hj k hk hx2 => by
    obtain rfl : g = k := by simpa [Value.ownBlock] using hx2
    rcases hx with h1 | h1
    · exact h.av j hj g hk h1
    · have := (own_lt (h.es j hj) hk).2
      omega
  refine ⟨?_, fun j hj => ?_, fun j hj => ?_, fun i j hi hj hne => ?_⟩
  · rw [hlen, ncells_succ, hl]
    simp only [if_true]
    rw [ncells_congr (vs' := vs) (t' := t) (fun j hj => by rw [if_neg (by omega)]) (fun j hj => by rw [hn j hj])]
    exact hu
  · rw [hlen] at hj
    by_cases e : j = t.length
    · subst e
      rw [hl]
      simp only [if_true]
      exact ⟨rfl, .inl ⟨rfl, rfl⟩⟩
    · simp only [if_neg e]
      rw [hn j (by omega)]
      exact own_far (h.es j (by omega)) hg (h.av j (by omega))
  · rw [hlen] at hj
    by_cases e : j = t.length
    · simp only [if_pos e]; exact ap_symm (ap_nil _)
    · simp only [if_neg e]; exact hap j (by omega)
  · rw [hlen] at hi hj
    by_cases e : i = t.length
    · simp only [if_pos e]; exact ap_symm (ap_nil _)
    · simp only [if_neg e]
      by_cases e2 : j = t.length
      · simp only [if_pos e2]; exact ap_nil _
      · simp only [if_neg e2]; exact h.aa i j (by omega) (by omega) hne
/-- a word's number, stored -/
theorem OwT.word {w : World} {base g cap : Nat} {vs : Nat → Value} {t : List Nd} {a : Nat} (x : Int) (h : OwT w base (.slice (some ⟨g, 0, none⟩) t.length cap) vs t) (ha : a < t.length) :
    OwT (w.setCell ⟨g, a * 2 + 1, none⟩ (.int .i64 x)) base (.slice (some ⟨g, 0, none⟩) t.length cap) vs (t.set a ⟨(nod t a).es, x⟩) := by
  obtain ⟨s1, s2⟩ := h.row.stored (a * 2 + 1) (.int .i64 x)
  have hlen : (t.set a ⟨(nod t a).es, x⟩).length = t.length := by simp
  have hes : ∀ j, (nod (t.set a ⟨(nod t a).es, x⟩) j).es = (nod t j).es := fun j => by
    by_cases e : j = a
    · subst e; rw [nod_set_same _ ha]
    · rw [nod_set_other _ e]
  refine ⟨?_, fun j hj => ?_, fun j hj => ?_, fun i j hi hj hne => ?_⟩
  · rw [hlen, ← ncells_set1 vs t _ x ha (fun j hj => by
      by_cases e : j = a
      · subst e; rw [nod_set_same _ ha, if_pos rfl]
      · rw [nod_set_other _ e, if_neg e])]
    exact s1
  · rw [hlen] at hj
    rw [hes]
    exact own_far (v := .slice (some ⟨g, 0, none⟩) t.length cap) (h.es j hj) s2 (h.av j hj)
  · rw [hlen] at hj
    exact h.av j hj
  · rw [hlen] at hi hj
    exact h.aa i j hi hj hne
end Go.Proofs.Ythkdjklpegmnnaa.Tri

/- The document's own times, plain: a row of times that rise, each once. -/
import Derived.Test.YtdffopkljomipaaGreatDoorTableF
namespace Go.Proofs.YtdffopkljomipaaGreatDoor
open Go Go.RowKit Go.Maps
set_option linter.unusedVariables false

/-- a time more, in its place, once -/
def insT (t : Int) : List Int → List Int
  | [] => [t]
  | a :: l => if a < t then a :: insT t l else if a = t then a :: l else t :: a :: l
def putT (t : Int) (l : List Int) : List Int := if 0 ≤ t ∧ t ≤ 1893455999 then insT t l else l
theorem insT_mem {t x : Int} : ∀ {l : List Int}, x ∈ insT t l ↔ x = t ∨ x ∈ l
  | [] => by simp [insT]
  | a :: l => by
    unfold insT
    split
    · simp only [List.mem_cons, insT_mem (l := l)]
      constructor
      · rintro (h | h | h)
        · exact .inr (.inl h)
        · exact .inl h
        · exact .inr (.inr h)
      · rintro (h | h | h)
        · exact .inr (.inl h)
        · exact .inl h
        · exact .inr (.inr h)
    · split
      · rename_i h1 h2
        subst h2
        simp
      · simp
theorem insT_up {t : Int} : ∀ {l : List Int}, l.Pairwise (fun a b => a < b) → (insT t l).Pairwise (fun a b => a < b)
  | [], _ => by simp [insT]
  | a :: l, h => by
    obtain ⟨h1, h2⟩ := List.pairwise_cons.1 h
    unfold insT
    split
    · refine List.pairwise_cons.2 ⟨fun x hx => ?_, insT_up h2⟩
      rcases insT_mem.1 hx with rfl | hx
      · assumption
      · exact h1 x hx
    · split
      · exact h
      · refine List.pairwise_cons.2 ⟨fun x hx => ?_, h⟩
        rcases List.mem_cons.1 hx with rfl | hx
        · omega
        · have := h1 x hx; omega
/-- where it stands -/
theorem insT_at (t : Int) : ∀ (l : List Int) (k : Nat), k ≤ l.length → (∀ i (h : i < l.length), i < k → l[i] < t) → (∀ h : k < l.length, ¬ l[k] < t) → insT t l = if ∃ h : k < l.length, l[k] = t then l else l.take k ++ t :: l.drop k
  | [], k, hk, h1, h2 => by
    obtain rfl : k = 0 := by simpa using hk
    rw [if_neg (by simp)]
    rfl
  | a :: l, 0, hk, h1, h2 => by
    have h3 : ¬ a < t := h2 (by simp)
    unfold insT
    rw [if_neg h3]
    by_cases e : a = t
    · rw [if_pos e, if_pos ⟨by simp, e⟩]
    · rw [if_neg e, if_neg (fun ⟨_, h⟩ => e h)]
      rfl
  | a :: l, k + 1, hk, h1, h2 => by
    have h3 : a < t := h1 0 (by simp) (by omega)
    unfold insT
    rw [if_pos h3, insT_at t l k (by simpa using hk) (fun i h hi => by have := h1 (i + 1) (by simpa using h) (by omega); simpa using this) (fun h => by have := h2 (by simpa using h); simpa using this)]
    by_cases e : ∃ h : k < l.length, l[k] = t
    · rw [if_pos e, if_pos (by obtain ⟨h, e⟩ := e; exact ⟨by simpa using h, by simpa using e⟩)]
    · rw [if_neg e, if_neg (fun ⟨h, e'⟩ => e ⟨by simpa using h, by simpa using e'⟩)]
      rfl
theorem insT_len (t : Int) : ∀ l : List Int, (insT t l).length ≤ l.length + 1
  | [] => by simp [insT]
  | a :: l => by
    unfold insT
    split
    · simp only [List.length_cons]; have := insT_len t l; omega
    · split
      · simp
      · simp
theorem putT_len (t : Int) (l : List Int) : (putT t l).length ≤ l.length + 1 := by
  unfold putT
  split
  · exact insT_len t l
  · omega
/-- all times that were put, one behind the other -/
def putsT : List Int → List Int → List Int
  | [], l => l
  | t :: ts, l => putsT ts (putT t l)
theorem putsT_app : ∀ (a b l : List Int), putsT (a ++ b) l = putsT b (putsT a l)
  | [], _, _ => rfl
  | t :: a, b, l => putsT_app a b _
theorem putsT_len : ∀ (ts l : List Int), (putsT ts l).length ≤ l.length + ts.length
  | [], l => by simp [putsT]
  | t :: ts, l => by
    have h1 := putsT_len ts (putT t l)
    have h2 := putT_len t l
    unfold putsT
    simp only [List.length_cons]
    omega
theorem putT_up {t : Int} {l : List Int} (h : l.Pairwise fun a b => a < b) : (putT t l).Pairwise fun a b => a < b := by
  unfold putT
  split
  · exact insT_up h
  · exact h
theorem putT_mem {t x : Int} {l : List Int} : x ∈ putT t l ↔ (x = t ∧ 0 ≤ t ∧ t ≤ 1893455999) ∨ x ∈ l := by
  unfold putT
  split
  · rename_i h
    rw [insT_mem]
    simp [h.1, h.2]
  · rename_i h
    constructor
    · exact .inr
    · rintro (h2 | h2)
      · exact absurd h2.2 h
      · exact h2
theorem putsT_up : ∀ {ts l : List Int}, l.Pairwise (fun a b => a < b) → (putsT ts l).Pairwise fun a b => a < b
  | [], _, h => h
  | t :: ts, _, h => putsT_up (ts := ts) (putT_up h)
theorem putsT_mem {x : Int} : ∀ {ts l : List Int}, x ∈ putsT ts l ↔ (x ∈ ts ∧ 0 ≤ x ∧ x ≤ 1893455999) ∨ x ∈ l
  | [], l => by simp [putsT]
  | t :: ts, l => by
    unfold putsT
    rw [putsT_mem (ts := ts), putT_mem]
    simp only [List.mem_cons]
    constructor
    · rintro (⟨h1, h2⟩ | ⟨rfl, h2⟩ | h)
      · exact .inl ⟨.inr h1, h2⟩
      · exact .inl ⟨.inl rfl, h2⟩
      · exact .inr h
    · rintro (⟨rfl | h1, h2⟩ | h)
      · exact .inr (.inl ⟨rfl, h2⟩)
      · exact .inl ⟨h1, h2⟩
      · exact .inr (.inr h)
/-- a rule's times in its first n years; in all of them -/
def ylN (r : Rl) (std : Int) (n : Nat) : List Int := (List.range n).map fun (i : Nat) => begR r (r.f + (i : Int)) std
def ylL (r : Rl) (std : Int) : List Int := ylN r std (r.t - r.f + 1).toNat
def arN (D : Dt) (x : Er) (m : Nat) : List Int := (List.range m).flatMap fun i => ylL ((D.ss x.set.toNat).rs i) x.std
/-- an era's times -/
def erT (D : Dt) (x : Er) : List Int := x.un :: (if 0 ≤ x.set then arN D x (D.ss x.set.toNat).n else [])
def esN (D : Dt) (k m : Nat) : List Int := (List.range m).flatMap fun i => erT D ((D.zs k).es i)
/-- the document's own times -/
def timT (D : Dt) (k : Nat) : List Int := putsT (0 :: esN D k (D.zs k).n) []
theorem ylN_succ (r : Rl) (std : Int) (n : Nat) : ylN r std (n + 1) = ylN r std n ++ [begR r (r.f + (n : Int)) std] := by
  unfold ylN
  rw [List.range_succ, List.map_append]
  rfl
theorem arN_succ (D : Dt) (x : Er) (m : Nat) : arN D x (m + 1) = arN D x m ++ ylL ((D.ss x.set.toNat).rs m) x.std := by
  unfold arN
  rw [List.range_succ, List.flatMap_append]
  simp
theorem esN_succ (D : Dt) (k m : Nat) : esN D k (m + 1) = esN D k m ++ erT D ((D.zs k).es m) := by
  unfold esN
  rw [List.range_succ, List.flatMap_append]
  simp
theorem ylL_of {r : Rl} {std y : Int} (h1 : r.f ≤ y) (h2 : y ≤ r.t) : begR r y std ∈ ylL r std := by
  unfold ylL ylN
  refine List.mem_map.2 ⟨(y - r.f).toNat, List.mem_range.2 (by omega), ?_⟩
  congr 1
  omega
theorem wiL_all {r : Rl} {fr un std a : Int} (h : a ∈ wiL r fr un std) : a ∈ ylL r std := by
  unfold wiL wiN at h
  exact (List.mem_filter.1 h).1
theorem tim_up (D : Dt) (k : Nat) : (timT D k).Pairwise fun a b => a < b := putsT_up .nil
theorem tim_in {D : Dt} {k : Nat} {a : Int} (h : a ∈ timT D k) : 0 ≤ a ∧ a ≤ 1893455999 := by
  unfold timT at h
  rcases putsT_mem.1 h with h | h
  · exact h.2
  · cases h
theorem tim_zero (D : Dt) (k : Nat) : (0 : Int) ∈ timT D k := putsT_mem.2 (.inl ⟨by simp, by decide, by decide⟩)
/-- each of the program's times is among them -/
theorem tim_all {D : Dt} (hc : chkE D = 0) {k : Nat} (hk : k < D.nz) {t : Int} (h : t ∈ tmN D k (D.zs k).n) : t ∈ timT D k := by
  have hz := (chk_all hc).2.2.1 k hk
  have ha := fun i hi => (hz.1 i hi).2
  have hb := tmN_in ha _ (Nat.le_refl _) t h
  rw [hz.2] at hb
  refine putsT_mem.2 (.inl ⟨?_, hb.1, by omega⟩)
  unfold tmN at h
  obtain ⟨i, hi, h⟩ := List.mem_flatMap.1 h
  have hi := List.mem_range.1 hi
  have h := srtI_mem.1 h
  unfold bgU at h
  rcases List.mem_cons.1 h with h | h
  · cases i with
    | zero => exact List.mem_cons.2 (.inl h)
    | succ j =>
      refine List.mem_cons.2 (.inr ?_)
      unfold esN
      refine List.mem_flatMap.2 ⟨j, List.mem_range.2 (by omega), ?_⟩
      unfold erT
      exact List.mem_cons.2 (.inl h)
  · refine List.mem_cons.2 (.inr ?_)
    unfold esN
    refine List.mem_flatMap.2 ⟨i, List.mem_range.2 hi, ?_⟩
    unfold erT
    refine List.mem_cons.2 (.inr ?_)
    split at h
    · rename_i hs
      rw [if_pos hs]
      unfold ruN at h
      obtain ⟨j, hj, h⟩ := List.mem_flatMap.1 h
      unfold arN
      exact List.mem_flatMap.2 ⟨j, hj, wiL_all h⟩
    · cases h
/-- what the document picks out of them is what Compile answers -/
theorem tim_pick {D : Dt} (hc : chkE D = 0) {k : Nat} (hk : k < D.nz) : Tab.pickL oeq (offR D k) (timT D k) = cmpT D k := by
  refine Tab.push_pick oeq_iff (cmp_inv hc hk) (by decide) (tim_up D k) (fun a h => tim_in h) (tim_zero D k) fun t h1 h2 h3 => ?_
  exact off_same hc hk h1 (by omega) (fun h => h3 (tim_all hc hk h))
end Go.Proofs.YtdffopkljomipaaGreatDoor

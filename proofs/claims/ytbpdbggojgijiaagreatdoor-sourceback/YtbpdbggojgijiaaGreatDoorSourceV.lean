/- Data that lines may say, as they lie in memory: lists of lists that belong to the call. -/
import Derived.Test.YtbpdbggojgijiaaGreatDoorSourceU
namespace Go.Proofs.YtbpdbggojgijiaaGreatDoor.Src
open Go Go.RowKit Go.Maps
set_option linter.unusedVariables false

/-- the cells of sets, zones; of rules, eras, links -/
def seL {α : Type} (ss : List (By × α)) (vs : List Value) : List Value := (ss.zip vs).flatMap fun p => [.string ⟨p.1.1.toArray⟩, p.2]
def ruL (rs : List Rl) : List Value := rs.flatMap fun r => r.cs.toList
def erL (es : List Er) : List Value := es.flatMap fun x => x.cs.toList
def liL (ls : List (By × By)) : List Value := ls.flatMap fun l => [.string ⟨l.1.toArray⟩, .string ⟨l.2.toArray⟩]
theorem seL_app {α : Type} {a b : List (By × α)} {us vs : List Value} (h : a.length = us.length) : seL (a ++ b) (us ++ vs) = seL a us ++ seL b vs := by
  unfold seL
  rw [List.zip_append h, List.flatMap_append]
theorem seL_len {α : Type} {a : List (By × α)} {us : List Value} (h : us.length = a.length) : (seL a us).length = a.length * 2 := by
  unfold seL
  have e : (a.zip us).length = a.length := by rw [List.length_zip, h, Nat.min_self]
  rw [← e]
  generalize a.zip us = z
  induction z with
  | nil => rfl
  | cons x z ih => rw [List.flatMap_cons, List.length_append, ih]; simp; omega
/-- each in a block of its own -/
def Apart (vs : List Value) : Prop := ∀ (i j : Nat) (u v : Value), i < j → vs[i]? = some u → vs[j]? = some v → u.ownBlock = none ∨ u.ownBlock ≠ v.ownBlock
/-- a list of named lists -/
structure LL {α : Type} (te ti : TypeId) (S : Nat) (cs : List α → List Value) (B : Nat) (w : World) (v : Value) (ss : List (By × List α)) (vs : List Value) : Prop where
  len : vs.length = ss.length
  row : w.ownsRow B te 2 v ss.length (seL ss vs)
  ins : ∀ (j : Nat) (s : By × List α) (u : Value), ss[j]? = some s → vs[j]? = some u → w.ownsRow B ti S u s.2.length (cs s.2)
  ap : Apart vs
theorem ko_own {ts : List TypeId} {e : TypeId} {o : Option Nat} {w w' : World} {base S n : Nat} {v : Value} {xs : List Value} (hk : KO o ts w w') (h : w.ownsRow base e S v n xs) (he : e ∉ ts) (hv : v.ownBlock = none ∨ v.ownBlock ≠ o) : w'.ownsRow base e S v n xs :=
  ⟨h.1, h.2.imp id fun ⟨g, cap, cur, h1, h2, h3, h4⟩ => ⟨g, cap, cur, h1, h2, hk _ _ _ _ h3 he (fun e => by
    subst h1
    rcases hv with hv | hv
    · cases hv
    · exact hv e), h4⟩⟩
section
variable {α : Type} {te ti : TypeId} {S : Nat} {cs : List α → List Value} {B : Nat} {w w' : World} {v v' : Value} {ss : List (By × List α)} {vs : List Value}
theorem LL.kt {ts : List TypeId} (h : LL te ti S cs B w v ss vs) (hk : KT ts w w') (h1 : te ∉ ts) (h2 : ti ∉ ts) : LL te ti S cs B w' v ss vs :=
  ⟨h.len, kt_own hk h.row h1, fun j s u hs hu => kt_own hk (h.ins j s u hs hu) h2, h.ap⟩
theorem LL.ko {ts : List TypeId} {o : Option Nat} {t : TypeId} (h : LL te ti S cs B w v ss vs) (hk : KO o ts w w') (ho : ∀ b, o = some b → ∃ c, w.heap[b]? = some (.cells c t (0, 0))) (h1 : te ∉ ts) (h2 : ti ∉ ts) (h3 : te ≠ t) (h4 : ti ≠ t) : LL te ti S cs B w' v ss vs := by
  have key : ∀ {e : TypeId} {S n : Nat} {u : Value} {xs : List Value}, e ∉ ts → e ≠ t → w.ownsRow B e S u n xs → w'.ownsRow B e S u n xs := fun {e S n u xs} g1 g2 hr => by
    refine ⟨hr.1, hr.2.imp id fun ⟨g, cap, cur, k1, k2, k3, k4⟩ => ⟨g, cap, cur, k1, k2, hk _ _ _ _ k3 g1 (fun e => ?_), k4⟩⟩
    obtain ⟨c, hc⟩ := ho g e.symm
    rw [k3] at hc
    simp at hc
    exact g2 hc.2
  exact ⟨h.len, key h1 h3 h.row, fun j s u hs hu => key h2 h4 (h.ins j s u hs hu), h.ap⟩
/-- one more, that is empty -/
theorem LL.more {ts : List TypeId} (nm : By) (hc : cs [] = []) (h : LL te ti S cs B w v ss vs) (hk : KT ts w w') (h2 : ti ∉ ts) (hr : w'.ownsRow B te 2 v' (ss.length + 1) (seL ss vs ++ [.string ⟨nm.toArray⟩, .slice none 0 0])) : LL te ti S cs B w' v' (ss ++ [(nm, [])]) (vs ++ [.slice none 0 0]) := by
  refine ⟨by rw [List.length_append, List.length_append, h.len]; rfl, ?_, fun j s u hs hu => ?_, fun i j u1 u2 hij h3 h4 => ?_⟩
  · rw [List.length_append, seL_app h.len.symm]
    exact hr
  · by_cases e : j < ss.length
    · rw [List.getElem?_append_left e] at hs
      rw [List.getElem?_append_left (by rw [h.len]; exact e)] at hu
      exact kt_own hk (h.ins j s u hs hu) h2
    · have hj := (List.getElem?_eq_some_iff.1 hs).1
      rw [List.length_append] at hj
      simp at hj
      obtain rfl : j = ss.length := by omega
      rw [List.getElem?_append_right (Nat.le_refl _)] at hs
      rw [← h.len, List.getElem?_append_right (Nat.le_refl _)] at hu
      simp at hs hu
      subst hs hu
      rw [hc]
      exact ⟨by simp, .inl ⟨rfl, rfl⟩⟩
  · by_cases e : j < vs.length
    · rw [List.getElem?_append_left (by omega)] at h3
      rw [List.getElem?_append_left e] at h4
      exact h.ap i j u1 u2 hij h3 h4
    · have hj := (List.getElem?_eq_some_iff.1 h4).1
      rw [List.length_append] at hj
      simp at hj
      obtain rfl : j = vs.length := by omega
      rw [List.getElem?_append_right (Nat.le_refl _)] at h4
      simp at h4
      subst h4
      cases ho : u1.ownBlock with
      | none => exact .inl rfl
      | some b => exact .inr (by simp [Value.ownBlock])
/-- one more at the last one's end -/
theorem LL.last {ts : List TypeId} {l : List (By × List α)} {n : By} {r : List α} {us : List Value} {u u' : Value} (x : α) (hcs : cs (r ++ [x]) = cs r ++ cs [x]) (h : LL te ti S cs B w v (l ++ [(n, r)]) (us ++ [u])) (hul : us.length = l.length) (hk : KO u.ownBlock ts w w') (h2 : ti ∉ ts)
    (hr : w'.ownsRow B te 2 v (l.length + 1) ((seL (l ++ [(n, r)]) (us ++ [u])).set (l.length * 2 + 1) u')) (hi : w'.ownsRow B ti S u' (r.length + 1) (cs r ++ cs [x])) (hat : u'.ownBlock = u.ownBlock ∨ ∃ k, u'.ownBlock = some k ∧ w.heap.size ≤ k) :
    LL te ti S cs B w' v (l ++ [(n, r ++ [x])]) (us ++ [u']) := by
  have hat2 : ∀ (i : Nat) (y : Value), us[i]? = some y → y.ownBlock = none ∨ y.ownBlock ≠ u.ownBlock := fun i y hy => by
    have hlt := (List.getElem?_eq_some_iff.1 hy).1
    refine h.ap i us.length y u hlt ?_ ?_
    · rw [List.getElem?_append_left hlt]; exact hy
    · rw [List.getElem?_append_right (Nat.le_refl _)]; simp
  have hin : ∀ (j : Nat) (s : By × List α) (y : Value), l[j]? = some s → us[j]? = some y → w.ownsRow B ti S y s.2.length (cs s.2) := fun j s y h3 h4 => by
    refine h.ins j s y ?_ ?_
    · rw [List.getElem?_append_left (List.getElem?_eq_some_iff.1 h3).1]; exact h3
    · rw [List.getElem?_append_left (List.getElem?_eq_some_iff.1 h4).1]; exact h4
  refine ⟨by rw [List.length_append, List.length_append, hul]; rfl, ?_, fun j s y hs hy => ?_, fun i j u1 u2 hij h3 h4 => ?_⟩
  · rw [List.length_append, seL_app hul.symm]
    rw [seL_app hul.symm, List.set_append_right _ _ (by rw [seL_len hul]; omega), seL_len hul] at hr
    have e : l.length * 2 + 1 - l.length * 2 = 1 := by omega
    rw [e] at hr
    exact hr
  · by_cases e : j < l.length
    · rw [List.getElem?_append_left e] at hs
      rw [List.getElem?_append_left (by rw [hul]; exact e)] at hy
      exact ko_own hk (hin j s y hs hy) h2 (hat2 j y hy)
    · have hj := (List.getElem?_eq_some_iff.1 hs).1
      rw [List.length_append] at hj
      simp at hj
      obtain rfl : j = l.length := by omega
      rw [List.getElem?_append_right (Nat.le_refl _)] at hs
      rw [← hul, List.getElem?_append_right (Nat.le_refl _)] at hy
      simp at hs hy
      subst hs hy
      rw [hcs]
      simpa using hi
  · by_cases e : j < us.length
    · rw [List.getElem?_append_left (by omega)] at h3
      rw [List.getElem?_append_left e] at h4
      refine h.ap i j u1 u2 hij ?_ ?_
      · rw [List.getElem?_append_left (by omega)]; exact h3
      · rw [List.getElem?_append_left e]; exact h4
    · have hj := (List.getElem?_eq_some_iff.1 h4).1
      rw [List.length_append] at hj
      simp at hj
      obtain rfl : j = us.length := by omega
      rw [List.getElem?_append_left hij] at h3
      rw [List.getElem?_append_right (Nat.le_refl _)] at h4
      simp at h4
      subst h4
      rcases hat with ha | ⟨k, hk1, hk2⟩
      · rw [ha]
        exact hat2 i u1 h3
      · have hil : i < l.length := by omega
        obtain ⟨s, hs⟩ : ∃ s, l[i]? = some s := ⟨_, List.getElem?_eq_getElem hil⟩
        have hrow := hin i s u1 hs h3
        cases ho : u1.ownBlock with
        | none => exact .inl rfl
        | some b =>
          refine .inr ?_
          rw [hk1]
          intro e
          injection e with e
          have := (hrow.lt b ho).2
          omega
end
/-- words of a line are not longer than it -/
theorem cut_len {c : UInt8} : ∀ {l : By}, ∀ x ∈ cutB c l, x.length ≤ l.length
  | [], x, hx => by
    simp [cutB] at hx
    subst hx
    simp
  | a :: l, x, hx => by
    unfold cutB at hx
    have ih := fun y hy => cut_len (c := c) (l := l) y hy
    split at hx
    · rcases List.mem_cons.1 hx with rfl | hx
      · simp
      · have := ih x hx
        simp
        omega
    · split at hx
      · simp at hx
        subst hx
        simp
      · rename_i h t heq
        rcases List.mem_cons.1 hx with rfl | hx
        · have := ih h (by rw [heq]; simp)
          simp
          exact this
        · have := ih x (by rw [heq]; simp [hx])
          simp
          omega
theorem wd_len {c : UInt8} (l : By) (i : Nat) : (wd (cutB c l) i).length ≤ l.length := by
  unfold wd
  rw [List.getD_eq_getElem?_getD]
  cases h : (cutB c l)[i]? with
  | none => simp
  | some x => exact cut_len x (List.mem_of_getElem? h)
/-- not too much -/
structure lim (k M : Nat) (d : PD) : Prop where
  s : d.sets.length ≤ k
  z : d.zones.length ≤ k
  l : d.links.length ≤ k
  ss : ∀ s ∈ d.sets, s.1.length ≤ M ∧ s.2.length ≤ k ∧ ∀ r ∈ s.2, r.s.size ≤ M
  zs : ∀ z ∈ d.zones, z.1.length ≤ M ∧ z.2.length ≤ k ∧ ∀ x ∈ z.2, x.fm.size ≤ M
  ls : ∀ l ∈ d.links, l.1.length ≤ M ∧ l.2.length ≤ M
theorem lim0 (M : Nat) : lim 0 M pd0 := ⟨Nat.le_refl _, Nat.le_refl _, Nat.le_refl _, fun _ h => (by cases h), fun _ h => (by cases h), fun _ h => (by cases h)⟩
theorem lim.mono {k k' M : Nat} {d : PD} (h : lim k M d) (hk : k ≤ k') : lim k' M d :=
  ⟨Nat.le_trans h.s hk, Nat.le_trans h.z hk, Nat.le_trans h.l hk, fun s hs => ⟨(h.ss s hs).1, Nat.le_trans (h.ss s hs).2.1 hk, (h.ss s hs).2.2⟩, fun s hs => ⟨(h.zs s hs).1, Nat.le_trans (h.zs s hs).2.1 hk, (h.zs s hs).2.2⟩, h.ls⟩
theorem lim_last {α : Type} {P : α → Prop} {k M : Nat} {ss : List (By × List α)} {x : α} (hx : P x) (hl : ss.length ≤ k) (h : ∀ s ∈ ss, s.1.length ≤ M ∧ s.2.length ≤ k ∧ ∀ r ∈ s.2, P r) : (onLast x ss).length ≤ k + 1 ∧ ∀ s ∈ onLast x ss, s.1.length ≤ M ∧ s.2.length ≤ k + 1 ∧ ∀ r ∈ s.2, P r := by
  rcases List.eq_nil_or_concat ss with rfl | ⟨L, ⟨n, r⟩, rfl⟩
  · exact ⟨by simp [onLast], fun s hs => by simp [onLast] at hs⟩
  · rw [List.concat_eq_append] at *
    rw [onLast_app]
    refine ⟨by simp at hl ⊢; omega, fun s hs => ?_⟩
    rcases List.mem_append.1 hs with hs | hs
    · obtain ⟨a, b, c⟩ := h s (List.mem_append_left _ hs)
      exact ⟨a, by omega, c⟩
    · simp at hs
      subst hs
      obtain ⟨a, b, c⟩ := h (n, r) (by simp)
      refine ⟨a, by simp at b ⊢; omega, fun y hy => ?_⟩
      rcases List.mem_append.1 hy with hy | hy
      · exact c y hy
      · simp at hy
        subst hy
        exact hx
theorem lim_take {num : By → Int} {k M : Nat} {d : PD} {ws : List By} (h : lim k M d) (hw : ∀ i, (wd ws i).length ≤ M) : lim (k + 1) M (takeW num d ws) := by
  have h' := h.mono (Nat.le_succ k)
  unfold takeW
  split
  · refine ⟨by simpa using h.s, h'.z, h'.l, fun s hs => ?_, h'.zs, h'.ls⟩
    rcases List.mem_append.1 hs with hs | hs
    · exact h'.ss s hs
    · simp at hs
      subst hs
      exact ⟨hw 1, Nat.zero_le _, fun r hr => by cases hr⟩
  · split
    · have hx : (ruleOf num ws).s.size ≤ M := by
        show (if wd ws 9 = [45] then [] else wd ws 9).toArray.size ≤ M
        split
        · simp
        · simpa using hw 9
      obtain ⟨a, b⟩ := lim_last (P := fun r : Rl => r.s.size ≤ M) hx h.s h.ss
      exact ⟨a, h'.z, h'.l, b, h'.zs, h'.ls⟩
    · split
      · refine ⟨h'.s, by simpa using h.z, h'.l, h'.ss, fun s hs => ?_, h'.ls⟩
        rcases List.mem_append.1 hs with hs | hs
        · exact h'.zs s hs
        · simp at hs
          subst hs
          exact ⟨hw 1, Nat.zero_le _, fun r hr => by cases hr⟩
      · split
        · have hx : (eraOf num ws).fm.size ≤ M := by
            show (wd ws 4).toArray.size ≤ M
            simpa using hw 4
          obtain ⟨a, b⟩ := lim_last (P := fun r : Er => r.fm.size ≤ M) hx h.z h.zs
          exact ⟨h'.s, a, h'.l, h'.ss, b, h'.ls⟩
        · split
          · refine ⟨h'.s, h'.z, by simpa using h.l, h'.ss, h'.zs, fun s hs => ?_⟩
            rcases List.mem_append.1 hs with hs | hs
            · exact h'.ls s hs
            · simp at hs
              subst hs
              exact ⟨hw 1, hw 2⟩
          · exact h'
end Go.Proofs.YtbpdbggojgijiaaGreatDoor.Src

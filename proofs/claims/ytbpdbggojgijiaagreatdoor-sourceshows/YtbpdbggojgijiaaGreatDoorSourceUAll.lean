/- Plain: what data.Check answers hangs on what the lists hold alone. -/
import Derived.Test.YtbpdbggojgijiaaGreatDoorSourceNAll
namespace Go.Proofs.YtbpdbggojgijiaaGreatDoor.Src
open Go
set_option linter.unusedVariables false

theorem fst_congr {f g : Nat → Int} : ∀ {n : Nat}, (∀ i, i < n → f i = g i) → fstE f n = fstE g n
  | 0, _ => rfl
  | n + 1, h => by
    unfold fstE
    rw [fst_congr (n := n) fun i hi => h i (by omega), h n (by omega)]
theorem find_congr {α : Type} {p q : α → Bool} : ∀ {l : List α}, (∀ x ∈ l, p x = q x) → l.find? p = l.find? q
  | [], _ => rfl
  | a :: l, h => by
    rw [List.find?_cons, List.find?_cons, h a (by simp), find_congr fun x hx => h x (by simp [hx])]
theorem catL_congr {pn qn : Nat → Nat} {pf qf : Nat → Nat → ByteArray} : ∀ {k : Nat}, (∀ i, i < k → pn i = qn i) → (∀ i, i < k → ∀ j, j < qn i → pf i j = qf i j) → catL pn pf k = catL qn qf k
  | 0, _, _ => rfl
  | k + 1, h1, h2 => by
    unfold catL
    rw [catL_congr (fun i hi => h1 i (by omega)) (fun i hi => h2 i (by omega)), h1 k (by omega)]
    congr 1
    exact List.map_congr_left fun j hj => h2 k (by omega) j (List.mem_range.1 hj)
theorem dist_same {f g : Nat → ByteArray} {n : Nat} (hfg : ∀ j, j < n → f j = g j) : dist f n ↔ dist g n := by
  unfold dist
  refine forall_congr' fun i => forall_congr' fun hi => forall_congr' fun j => forall_congr' fun hj => ?_
  rw [hfg i hi, hfg j (by omega)]
theorem frm_same {f g : Nat → Er} {n : Nat} (hfg : ∀ j, j < n → f j = g j) : ∀ i, i ≤ n → frm f i = frm g i
  | 0, _ => rfl
  | i + 1, hi => by
    show (f i).un = (g i).un
    rw [hfg i (by omega)]
section
variable {D E : Dt} (h : SameDt D E)
include h
theorem few_same : few E = few D := by
  unfold few
  have e1 : few1 E ↔ few1 D := by unfold few1; rw [h.ns, h.nz, h.nl]
  have e2 : few2 E ↔ few2 D := by
    unfold few2
    rw [h.ns]
    exact forall_congr' fun j => forall_congr' fun hj => by rw [(h.sets j hj).2.1]
  have e3 : few3 E ↔ few3 D := by
    unfold few3
    rw [h.nz]
    exact forall_congr' fun j => forall_congr' fun hj => by rw [(h.zones j hj).2.1]
  rw [decide_eq_decide.2 e1, decide_eq_decide.2 e2, decide_eq_decide.2 e3]
theorem names_same : allN E = allN D := by
  unfold allN
  refine catL_congr (fun i _ => by unfold n4; rw [h.ns, h.nz, h.nl]) fun i hi j hj => ?_
  unfold f4
  unfold n4 at hj
  have h4 : i = 0 ∨ i = 1 ∨ i = 2 ∨ i = 3 := by omega
  rcases h4 with rfl | rfl | rfl | rfl
  · exact (h.sets j hj).1
  · exact (h.zones j hj).1
  · exact congrArg Lk.nm (h.links j hj)
  · exact congrArg Lk.tgt (h.links j hj)
theorem nms_same (j : Nat) (hj : j < D.nz + D.nl) : nms E j = nms D j := by
  unfold nms
  rw [h.nz]
  by_cases e : j < D.nz
  · rw [if_pos e, if_pos e]
    exact (h.zones j e).1
  · rw [if_neg e, if_neg e]
    exact congrArg Lk.nm (h.links _ (by omega))
theorem idx_same (s : ByteArray) : idx E s = idx D s := by
  unfold idx
  rw [h.nz, h.nl]
  exact find_congr fun j hj => by rw [nms_same h j (List.mem_range.1 hj)]
theorem lead_same : ∀ (k : Nat) (s : ByteArray), leadK E k s = leadK D k s
  | 0, _ => rfl
  | k + 1, s => by
    unfold leadK
    rw [idx_same h]
    cases hi : idx D s with
    | none => rfl
    | some j =>
      have hj := (idx_some hi).1
      simp only
      rw [h.nz]
      by_cases e : j < D.nz
      · rw [if_pos e, if_pos e]
      · rw [if_neg e, if_neg e, lead_same k, h.links _ (by omega)]
theorem rulE_same : rulE E = rulE D := by
  unfold rulE
  rw [h.ns]
  refine fst_congr fun j hj => ?_
  unfold setE
  rw [(h.sets j hj).2.1]
  exact fst_congr fun i hi => by rw [(h.sets j hj).2.2 i hi]
theorem ers_same : ersOK E ↔ ersOK D := by
  unfold ersOK
  rw [h.nz]
  refine forall_congr' fun j => forall_congr' fun hj => ?_
  obtain ⟨h1, h2, h3⟩ := h.zones j hj
  unfold zoneOK
  rw [h2, h.ns, frm_same h3 _ (Nat.le_refl _)]
  refine and_congr ?_ Iff.rfl
  refine forall_congr' fun i => forall_congr' fun hi => ?_
  rw [h3 i hi, frm_same h3 i (by omega)]
theorem fmt_same : fmts E ↔ fmts D := by
  unfold fmts
  rw [h.nz]
  refine forall_congr' fun j => forall_congr' fun hj => ?_
  obtain ⟨h1, h2, h3⟩ := h.zones j hj
  rw [h2]
  exact forall_congr' fun i => forall_congr' fun hi => by rw [h3 i hi]
theorem lnk1_same : lnk1 E ↔ lnk1 D := by
  unfold lnk1
  rw [h.nl]
  exact forall_congr' fun j => forall_congr' fun hj => by rw [idx_same h, h.links j hj]
theorem lnk2_same : lnk2 E = lnk2 D := by
  unfold lnk2
  rw [h.nl]
  exact fst_congr fun j hj => by rw [lead_same h, h.links j hj]
/-- the same data are right, or wrong, alike -/
theorem chk_same : chkE E = chkE D := by
  unfold chkE
  have e1 : namesOK E ↔ namesOK D := by unfold namesOK; rw [names_same h]
  have e2 : dist (fun j => (E.ss j).nm) E.ns ↔ dist (fun j => (D.ss j).nm) D.ns := by
    rw [h.ns]
    exact dist_same fun j hj => (h.sets j hj).1
  have e3 : dist (nms E) (E.nz + E.nl) ↔ dist (nms D) (D.nz + D.nl) := by
    rw [h.nz, h.nl]
    exact dist_same fun j hj => nms_same h j hj
  simp only [few_same h, e1, e2, e3, rulE_same h, ers_same h, fmt_same h, lnk1_same h, lnk2_same h]
end
theorem range_map_inj {α : Type} {f g : Nat → α} {n m : Nat} (h : (List.range n).map f = (List.range m).map g) : n = m ∧ ∀ j, j < m → f j = g j := by
  have hl : n = m := by simpa using congrArg List.length h
  subst hl
  refine ⟨rfl, fun j hj => ?_⟩
  have := congrArg (fun l => l[j]?) h
  simpa [hj] using this
theorem bytes_inj {a b : ByteArray} (h : a.data.toList = b.data.toList) : a = b := by
  cases a; cases b
  simp only at h
  rw [Array.toList_inj.1 h]
/-- what is told alike as lists is the same -/
theorem same_pd {D E : Dt} (h : pdOf E = pdOf D) : SameDt D E := by
  unfold pdOf at h
  injection h with h1 h2 h3
  obtain ⟨a1, a2⟩ := range_map_inj h1
  obtain ⟨b1, b2⟩ := range_map_inj h2
  obtain ⟨c1, c2⟩ := range_map_inj h3
  refine ⟨a1, fun j hj => ?_, b1, fun j hj => ?_, c1, fun j hj => ?_⟩
  · have := a2 j hj
    injection this with e1 e2
    obtain ⟨r1, r2⟩ := range_map_inj e2
    exact ⟨bytes_inj e1, r1, r2⟩
  · have := b2 j hj
    injection this with e1 e2
    obtain ⟨r1, r2⟩ := range_map_inj e2
    exact ⟨bytes_inj e1, r1, r2⟩
  · have := c2 j hj
    injection this with e1 e2
    have k1 := bytes_inj e1
    have k2 := bytes_inj e2
    cases hE : E.ls j
    cases hD : D.ls j
    rw [hE, hD] at k1 k2
    simp only at k1 k2
    rw [k1, k2]
end Go.Proofs.YtbpdbggojgijiaaGreatDoor.Src

/- Data that lines may say, as they lie in memory: lists of lists that belong to the call. -/
namespace Go.Proofs.YtbpdbggojgijiaaGreatDoor.Src
open Go Go.RowKit Go.Maps
set_option linter.unusedVariables false

/-- the cells of sets, zones; of rules, eras, links -/
def seL {α : Type} (ss : List (By × α)) (vs : List Value) : List Value := (ss.zip vs).flatMap fun p => [.string ⟨p.1.1.toArray⟩, p.2]
def ruL (rs : List Rl) : List Value := rs.flatMap fun r => r.cs.toList
def erL (es : List Er) : List Value := es.flatMap fun x => x.cs.toList
def liL (ls : List (By × By)) : List Value := ls.flatMap fun l => [.string ⟨l.1.toArray⟩, .string ⟨l.2.toArray⟩]
theorem seL_app {α : Type} {a b : List (By × α)} {us vs : List Value} (h : a.length = us.length) : seL (a ++ b) (us ++ vs) = seL a us ++ seL b vs := by
  unfold seL
  rw [List.zip_append h, List.flatMap_append]
theorem seL_len {α : Type} {a : List (By × α)} {us : List Value} (h : us.length = a.length) : (seL a us).length = a.length * 2 := by
  unfold seL
  have e : (a.zip us).length = a.length := by rw [List.length_zip, h, Nat.min_self]
  rw [← e]
  generalize a.zip us = z
  induction z with
  | nil => rfl
  | cons x z ih => rw [List.flatMap_cons, List.length_append, ih]; simp; omega
/-- each in a block of its own -/
def Apart (vs : List Value) : Prop := ∀ (i j : Nat) (u v : Value), i < j → vs[i]? = some u → vs[j]? = some v → u.ownBlock = none ∨ u.ownBlock ≠ v.ownBlock
/-- a list of named lists -/
structure LL {α : Type} (te ti : TypeId) (S : Nat) (cs : List α → List Value) (B : Nat) (w : World) (v : Value) (ss : List (By × List α)) (vs : List Value) : Prop where
  len : vs.length = ss.length
  row : w.ownsRow B te 2 v ss.length (seL ss vs)
  ins : ∀ (j : Nat) (s : By × List α) (u : Value), ss[j]? = some s → vs[j]? = some u → w.ownsRow B ti S u s.2.length (cs s.2)
  ap : Apart vs
theorem ko_own {ts : List TypeId} {e : TypeId} {o : Option Nat} {w w' : World} {base S n : Nat} {v : Value} {xs : List Value} (hk : KO o ts w w') (h : w.ownsRow base e S v n xs) (he : e ∉ ts) (hv : v.ownBlock = none ∨ v.ownBlock ≠ o) : w'.ownsRow base e S v n xs :=
  ⟨h.1, h.2.imp id fun ⟨g, cap, cur, h1, h2, h3, h4⟩ => ⟨g, cap, cur, h1, h2, hk _ _ _ _ h3 he (fun e => by
    subst h1
    rcases hv with hv | hv
    · cases hv
    · exact hv e), h4⟩⟩
section
variable {α : Type} {te ti : TypeId} {S : Nat} {cs : List α → List Value} {B : Nat} {w w' : World} {v v' : Value} {ss : List (By × List α)} {vs : List Value}
theorem LL.kt {ts : List TypeId} (h : LL te ti S cs B w v ss vs) (hk : KT ts w w') (h1 : te ∉ ts) (h2 : ti ∉ ts) : LL te ti S cs B w' v ss vs :=
  ⟨h.len, kt_own hk h.row h1, fun j s u hs hu => kt_own hk (h.ins j s u hs hu) h2, h.ap⟩
theorem LL.ko {ts : List TypeId} {o : Option Nat} {t : TypeId} (h : LL te ti S cs B w v ss vs) (hk : KO o ts w w') (ho : ∀ b, o = some b → ∃ c, w.heap[b]? = some (.cells c t (0, 0))) (h1 : te ∉ ts) (h2 : ti ∉ ts) (h3 : te ≠ t) (h4 : ti ≠ t) : LL te ti S cs B w' v ss vs := by
  have key : ∀ {e : TypeId} {S n : Nat} {u : Value} {xs : List Value}, e ∉ ts → e ≠ t → w.ownsRow B e S u n xs → w'.ownsRow B e S u n xs := fun {e S n u xs} g1 g2 hr => by
    refine ⟨hr.1, hr.2.imp id fun ⟨g, cap, cur, k1, k2, k3, k4⟩ => ⟨g, cap, cur, k1, k2, hk _ _ _ _ k3 g1 (fun e => ?_), k4⟩⟩
    obtain ⟨c, hc⟩ := ho g e.symm
    rw [k3] at hc
    simp at hc
    exact g2 hc.2
  exact ⟨h.len, key h1 h3 h.row, fun j s u hs hu => key h2 h4 (h.ins j s u hs hu), h.ap⟩
/-- one more, that is empty -/
theorem LL.more {ts : List TypeId} (nm : By) (hc : cs [] = []) (h : LL te ti S cs B w v ss vs) (hk : KT ts w w') (h2 : ti ∉ ts) (hr : w'.ownsRow B te 2 v' (ss.length + 1) (seL ss vs ++ [.string ⟨nm.toArray⟩, .slice none 0 0])) : LL te ti S cs B w' v' (ss ++ [(nm, [])]) (vs ++ [.slice none 0 0]) := by
  refine ⟨by rw [List.length_append, List.length_append, h.len]; rfl, ?_, fun j s u hs hu => ?_, fun i j u1 u2 hij h3 h4 => ?_⟩
  · rw [List.length_append, seL_app h.len.symm]
    exact hr
  · by_cases e : j < ss.length
    · rw [List.getElem?_append_left e] at hs
      rw [List.getElem?_append_left (by rw [h.len]; exact e)] at hu
      exact kt_own hk (h.ins j s u hs hu) h2
    · have hj := (List.getElem?_eq_some_iff.1 hs).1
      rw [List.length_append] at hj
      simp at hj
      obtain rfl : j = ss.length := by omega
      rw [List.getElem?_append_right (Nat.le_refl _)] at hs
      rw [← h.len, List.getElem?_append_right (Nat.le_refl _)] at hu
      simp at hs hu
      subst hs hu
      rw [hc]
      exact ⟨by simp, .inl ⟨rfl, rfl⟩⟩
  · by_cases e : j < vs.length
    · rw [List.getElem?_append_left (by omega)] at h3
      rw [List.getElem?_append_left e] at h4
      exact h.ap i j u1 u2 hij h3 h4
    · have hj := (List.getElem?_eq_some_iff.1 h4).1
      rw [List.length_append] at hj
      simp at hj
      obtain rfl : j = vs.length := by omega
      rw [List.getElem?_append_right (Nat.le_refl _)] at h4
      simp at h4
      subst h4
      cases ho : u1.ownBlock with
      | none => exact .inl rfl
      | some b => exact .inr (by simp [Value.ownBlock])
/-- one more at the last one's end -/
theorem LL.last {ts : List TypeId} {l : List (By × List α)} {n : By} {r : List α} {us : List Value} {u u' : Value} (x : α) (hcs : cs (r ++ [x]) = cs r ++ cs [x]) (h : LL te ti S cs B w v (l ++ [(n, r)]) (us ++ [u])) (hul : us.length = l.length) (hk : KO u.ownBlock ts w w') (h2 : ti ∉ ts)
    (hr : w'.ownsRow B te 2 v (l.length + 1) ((seL (l ++ [(n, r)]) (us ++ [u])).set (l.length * 2 + 1) u')) (hi : w'.ownsRow B ti S u' (r.length + 1) (cs r ++ cs [x])) (hat : u'.ownBlock = u.ownBlock ∨ ∃ k, u'.ownBlock = some k ∧ w.heap.size ≤ k) :
    LL te ti S cs B w' v (l ++ [(n, r ++ [x])]) (us ++ [u']) := by
  have hat2 : ∀ (i : Nat) (y : Value), us[i]? = some y → y.ownBlock = none ∨ y.ownBlock ≠ u.ownBlock := fun i y hy => by
    have hlt := (List.getElem?_eq_some_iff.1 hy).1
    refine h.ap i us.length y u hlt ?_ ?_
    · rw [List.getElem?_append_left hlt]; exact hy
    · rw [List.getElem?_append_right (Nat.le_refl _)]; simp
  have hin : ∀ (j : Nat) (s : By × List α) (y : Value), l[j]? = some s → us[j]? = some y → w.ownsRow B ti S y s.2.length (cs s.2) := fun j s y h3 h4 => by
    refine h.ins j s y ?_ ?_
    · rw [List.getElem?_append_left (List.getElem?_eq_some_iff.1 h3).1]; exact h3
    · rw [List.getElem?_append_left (List.getElem?_eq_some_iff.1 h4).1]; exact h4
  refine ⟨by rw [List.length_append, List.length_append, hul]; rfl, ?_, fun j s y hs hy => ?_, fun i j u1 u2 hij h3 h4 => ?_⟩
  · rw [List.length_append, seL_app hul.symm]
    rw [seL_app hul.symm, List.set_append_right _ _ (by rw [seL_len hul]; omega), seL_len hul] at hr
    have e : l.length * 2 + 1 - l.length * 2 = 1 := by omega
    rw [e] at hr
    exact hr
  · by_cases e : j < l.length
    · rw [List.getElem?_append_left e] at hs
      rw [List.getElem?_append_left (by rw [hul]; exact e)] at hy
      exact ko_own hk (hin j s y hs hy) h2 (hat2 j y hy)
    · have hj := (List.getElem?_eq_some_iff.1 hs).1
      rw [List.length_append] at hj
      simp at hj
      obtain rfl : j = l.length := by omega
      rw [List.getElem?_append_right (Nat.le_refl _)] at hs
      rw [← hul, List.getElem?_append_right (Nat.le_refl _)] at hy
      simp at hs hy
      subst hs hy
      rw [hcs]
      simpa using hi
  · by_cases e : j < us.length
    · rw [List.getElem?_append_left (by omega)] at h3
      rw [List.getElem?_append_left e] at h4
      refine h.ap i j u1 u2 hij ?_ ?_
      · rw [List.getElem?_append_left (by omega)]; exact h3
      · rw [List.getElem?_append_left e]; exact h4
    · have hj := (List.getElem?_eq_some_iff.1 h4).1
      rw [List.length_append] at hj
      simp at hj
      obtain rfl : j = us.length := by omega
      rw [List.getElem?_append_left hij] at h3
      rw [List.getElem?_append_right (Nat.le_refl _)] at h4
      simp at h4
      subst h4
      rcases hat with ha | ⟨k, hk1, hk2⟩
      · rw [ha]
        exact hat2 i u1 h3
      · have hil : i < l.length := by omega
        obtain ⟨s, hs⟩ : ∃ s, l[i]? = some s := ⟨_, List.getElem?_eq_getElem hil⟩
        have hrow := hin i s u1 hs h3
        cases ho : u1.ownBlock with
        | none => exact .inl rfl
        | some b =>
          refine .inr ?_
          rw [hk1]
          intro e
          injection e with e
          have := (hrow.lt b ho).2
          omega
end
/-- words of a line are not longer than it -/
theorem cut_len {c : UInt8} : ∀ {l : By}, ∀ x ∈ cutB c l, x.length ≤ l.length
  | [], x, hx => by
    simp [cutB] at hx
    subst hx
    simp
  | a :: l, x, hx => by
    unfold cutB at hx
    have ih := fun y hy => cut_len (c := c) (l := l) y hy
    split at hx
    · rcases List.mem_cons.1 hx with rfl | hx
      · simp
      · have := ih x hx
        simp
        omega
    · split at hx
      · simp at hx
        subst hx
        simp
      · rename_i h t heq
        rcases List.mem_cons.1 hx with rfl | hx
        · have := ih h (by rw [heq]; simp)
          simp
          exact this
        · have := ih x (by rw [heq]; simp [hx])
          simp
          omega
theorem wd_len {c : UInt8} (l : By) (i : Nat) : (wd (cutB c l) i).length ≤ l.length := by
  unfold wd
  rw [List.getD_eq_getElem?_getD]
  cases h : (cutB c l)[i]? with
  | none => simp
  | some x => exact cut_len x (List.mem_of_getElem? h)
/-- not too much -/
structure lim (k M : Nat) (d : PD) : Prop where
  s : d.sets.length ≤ k
  z : d.zones.length ≤ k
  l : d.links.length ≤ k
  ss : ∀ s ∈ d.sets, s.1.length ≤ M ∧ s.2.length ≤ k ∧ ∀ r ∈ s.2, r.s.size ≤ M
  zs : ∀ z ∈ d.zones, z.1.length ≤ M ∧ z.2.length ≤ k ∧ ∀ x ∈ z.2, x.fm.size ≤ M
  ls : ∀ l ∈ d.links, l.1.length ≤ M ∧ l.2.length ≤ M
theorem lim0 (M : Nat) : lim 0 M pd0 := ⟨Nat.le_refl _, Nat.le_refl _, Nat.le_refl _, fun _ h => (by cases h), fun _ h => (by cases h), fun _ h => (by cases h)⟩
theorem lim.mono {k k' M : Nat} {d : PD} (h : lim k M d) (hk : k ≤ k') : lim k' M d :=
  ⟨Nat.le_trans h.s hk, Nat.le_trans h.z hk, Nat.le_trans h.l hk, fun s hs => ⟨(h.ss s hs).1, Nat.le_trans (h.ss s hs).2.1 hk, (h.ss s hs).2.2⟩, fun s hs => ⟨(h.zs s hs).1, Nat.le_trans (h.zs s hs).2.1 hk, (h.zs s hs).2.2⟩, h.ls⟩
theorem lim_last {α : Type} {P : α → Prop} {k M : Nat} {ss : List (By × List α)} {x : α} (hx : P x) (hl : ss.length ≤ k) (h : ∀ s ∈ ss, s.1.length ≤ M ∧ s.2.length ≤ k ∧ ∀ r ∈ s.2, P r) : (onLast x ss).length ≤ k + 1 ∧ ∀ s ∈ onLast x ss, s.1.length ≤ M ∧ s.2.length ≤ k + 1 ∧ ∀ r ∈ s.2, P r := by
  rcases List.eq_nil_or_concat ss with rfl | ⟨L, ⟨n, r⟩, rfl⟩
  · exact ⟨by simp [onLast], fun s hs => by simp [onLast] at hs⟩
  · rw [List.concat_eq_append] at *
    rw [onLast_app]
    refine ⟨by simp at hl ⊢; omega, fun s hs => ?_⟩
    rcases List.mem_append.1 hs with hs | hs
    · obtain ⟨a, b, c⟩ := h s (List.mem_append_left _ hs)
      exact ⟨a, by omega, c⟩
    · simp at hs
      subst hs
      obtain ⟨a, b, c⟩ := h (n, r) (by simp)
      refine ⟨a, by simp at b ⊢; omega, fun y hy => ?_⟩
      rcases List.mem_append.1 hy with hy | hy
      · exact c y hy
      · simp at hy
        subst hy
        exact hx
theorem lim_take {num : By → Int} {k M : Nat} {d : PD} {ws : List By} (h : lim k M d) (hw : ∀ i, (wd ws i).length ≤ M) : lim (k + 1) M (takeW num d ws) := by
  have h' := h.mono (Nat.le_succ k)
  unfold takeW
  split
  · refine ⟨by simpa using h.s, h'.z, h'.l, fun s hs => ?_, h'.zs, h'.ls⟩
    rcases List.mem_append.1 hs with hs | hs
    · exact h'.ss s hs
    · simp at hs
      subst hs
      exact ⟨hw 1, Nat.zero_le _, fun r hr => by cases hr⟩
  · split
    · have hx : (ruleOf num ws).s.size ≤ M := by
        show (if wd ws 9 = [45] then [] else wd ws 9).toArray.size ≤ M
        split
        · simp
        · simpa using hw 9
      obtain ⟨a, b⟩ := lim_last (P := fun r : Rl => r.s.size ≤ M) hx h.s h.ss
      exact ⟨a, h'.z, h'.l, b, h'.zs, h'.ls⟩
    · split
      · refine ⟨h'.s, by simpa using h.z, h'.l, h'.ss, fun s hs => ?_, h'.ls⟩
        rcases List.mem_append.1 hs with hs | hs
        · exact h'.zs s hs
        · simp at hs
          subst hs
          exact ⟨hw 1, Nat.zero_le _, fun r hr => by cases hr⟩
      · split
        · have hx : (eraOf num ws).fm.size ≤ M := by
            show (wd ws 4).toArray.size ≤ M
            simpa using hw 4
          obtain ⟨a, b⟩ := lim_last (P := fun r : Er => r.fm.size ≤ M) hx h.z h.zs
          exact ⟨h'.s, a, h'.l, h'.ss, b, h'.ls⟩
        · split
          · refine ⟨h'.s, h'.z, by simpa using h.l, h'.ss, h'.zs, fun s hs => ?_⟩
            rcases List.mem_append.1 hs with hs | hs
            · exact h'.ls s hs
            · simp at hs
              subst hs
              exact ⟨hw 1, hw 2⟩
          · exact h'
end Go.Proofs.YtbpdbggojgijiaaGreatDoor.Src

/- A line is taken into data, whatever it says. -/
namespace Go.Proofs.YtbpdbggojgijiaaGreatDoor.Src
open Go Go.RowKit Go.Maps
set_option linter.unusedVariables false

/-- what was taken, in a box -/
def GI (B db : Nat) (d : PD) (w : World) : Prop := ∃ (v1 v2 v3 : Value) (vs zs : List Value), w.heap[db]? = some (.cells #[v1, v2, v3] 26) ∧ LL 47 65 9 ruL B w v1 d.sets vs ∧ LL 51 67 5 erL B w v2 d.zones zs ∧ w.ownsRow B 54 2 v3 d.links.length (liL d.links)
abbrev gTs : List TypeId := [47, 51, 54, 65, 67, 26, 96]
theorem own_at {w : World} {B S n : Nat} {e : TypeId} {v : Value} {xs : List Value} (h : w.ownsRow B e S v n xs) : ∀ b, v.ownBlock = some b → ∃ c, w.heap[b]? = some (.cells c e (0, 0)) := by
  intro b hb
  rcases h.2 with ⟨rfl, _⟩ | ⟨g, cap, cur, rfl, _, hg, _⟩
  · cases hb
  · injection hb with hb
    subst hb
    exact ⟨cur, hg⟩
theorem ko_g {o : Option Nat} {ts : List TypeId} {t : TypeId} {w w' : World} (hk : KO o ts w w') (hs : ∀ x, x ∈ ts → x ∈ gTs) (ho : ∀ b, o = some b → ∃ c, w.heap[b]? = some (.cells c t (0, 0))) (ht : t ∈ gTs) : KT gTs w w' := fun b cs ty fr hb h1 => by
  refine hk b cs ty fr hb (fun e => h1 (hs _ e)) fun e => ?_
  obtain ⟨c, hc⟩ := ho b e.symm
  rw [hb] at hc
  simp at hc
  exact h1 (hc.2.1 ▸ ht)
theorem own_some {w : World} {B S n : Nat} {e : TypeId} {v : Value} {xs : List Value} (h : w.ownsRow B e S v n xs) (hn : 0 < n) : ∃ g c, v = .slice (some ⟨g, 0, none⟩) n c := by
  rcases h.2 with ⟨_, h0⟩ | ⟨g, cap, cur, rfl, _⟩
  · omega
  · exact ⟨g, cap, rfl⟩
theorem wd0 (l : By) : wd (cutB 32 l) 0 = hdW l := (wN_wd 0 l).symm
set_option maxHeartbeats 2000000 in
theorem take_c (B db : Nat) (l : By) (w : World) (d : PD) (h : GI B db d w) {M : Nat} (hk : lim 999999 M d) (hB : B ≤ w.heap.size) (hX : ∀ v : World, Below B w v → EVs v) (hBd : B ≤ db) (hl : l.length < 4294967281) :
    Calls Tryz.prog 46 #[.pointer (some ⟨db, 0, none⟩), .agg #[.string ⟨l.toArray⟩]] w fun e w' => e = .returned (.tuple #[]) ∧ GI B db (takeW numA d (cutB 32 l)) w' ∧ Below B w w' ∧ KT gTs w w' := by
  obtain ⟨v1, v2, v3, vs, zs, hd, hs, hz, hlk⟩ := h
  obtain ⟨s1, c1, rfl⟩ := ownS_sl hs.row
  obtain ⟨s2, c2, rfl⟩ := ownS_sl hz.row
  obtain ⟨s3, c3, rfl⟩ := ownS_sl hlk
  unfold takeW
  rw [wd0]
  by_cases k1 : hdW l = wSet
  · rw [if_pos k1]
    refine (take_set_c B db l w s1 _ c1 _ _ _ hd hB hX hBd hs.row (by have := hk.s; omega) hl k1).mono ?_
    rintro e w' ⟨rfl, a2, d2, q1, q2, q3, q4⟩
    refine ⟨rfl, ⟨_, _, _, _, _, q1, hs.more (wd (cutB 32 l) 1) rfl q4 (by decide) ?_, hz.kt q4 (by decide) (by decide), kt_own q4 hlk (by decide)⟩, q3, kt_more q4 (by decide)⟩
    rw [← wN_wd 1 l]
    exact q2
  rw [if_neg k1]
  by_cases k2 : hdW l = wRule
  · rw [if_pos k2]
    obtain ⟨ss, hss⟩ : ∃ ss, ss = d.sets := ⟨_, rfl⟩
    have hks := hk.s
    have hkr := hk.ss
    rw [← hss] at hs hd hks hkr
    simp only [← hss]
    rcases List.eq_nil_or_concat ss with rfl | ⟨L, ⟨n, r⟩, rfl⟩
    · refine (take_rule0_c B db l w s1 c1 _ _ hd hB hX hl k2).mono ?_
      rintro e w' ⟨rfl, q3, q4⟩
      exact ⟨rfl, ⟨_, _, _, _, _, q4 _ _ _ _ hd (by decide), hs.kt q4 (by decide) (by decide), hz.kt q4 (by decide) (by decide), kt_own q4 hlk (by decide)⟩, q3, kt_more q4 (by decide)⟩
    · rw [List.concat_eq_append] at *
      rw [onLast_app]
      have hvl := hs.len
      rcases List.eq_nil_or_concat vs with rfl | ⟨us, u, rfl⟩
      · simp at hvl
      rw [List.concat_eq_append] at *
      have hul : us.length = L.length := by simpa using hvl
      have hlL : (L ++ [(n, r)]).length = L.length + 1 := by simp
      rw [hlL] at hd hks hs
      have hrow := hs.row
      rw [hlL] at hrow
      obtain ⟨g, cc, he⟩ := own_some hrow (by omega)
      injection he with he1 he2 he3
      subst he1
      have hin := hs.ins L.length (n, r) u (by simp) (by rw [← hul]; simp)
      obtain ⟨ra, rc, rfl⟩ := ownS_sl hin
      have hxs : (seL (L ++ [(n, r)]) (us ++ [.slice ra r.length rc]))[L.length * 2 + 1]? = some (.slice ra r.length rc) := by
        rw [seL_app hul.symm, List.getElem?_append_right (by rw [seL_len hul]; omega), seL_len hul]
        have e : L.length * 2 + 1 - L.length * 2 = 1 := by omega
        rw [e]
        rfl
      refine (take_rule_c B db g L.length l w c1 _ _ _ (ruL r) ra r.length rc hd hB hX hBd hrow hxs hin (by omega) (by have := (hkr (n, r) (by simp)).2.1; simp only at this; omega) hl k2 (ruL [ruleOf numA (cutB 32 l)]) (by simp only [wN_wd]; rfl)).mono ?_
      rintro e w' ⟨rfl, a2, d2, q1, q2, q3, q4, q5, q6⟩
      have hob := own_at hin
      refine ⟨rfl, ⟨_, _, _, _, _, q1, hs.last (ruleOf numA (cutB 32 l)) (by unfold ruL; rw [List.flatMap_append]) hul q5 (by decide) q2 q3 q6, hz.ko q5 hob (by decide) (by decide) (by decide) (by decide), ?_⟩, q4, ko_g q5 (by decide) hob (by decide)⟩
      · refine kt_own (ts := [47, 96, 65]) (fun b cs ty fr hb h1 => q5 b cs ty fr hb (fun e => h1 (List.mem_of_mem_take (i := 2) e)) fun e => ?_) hlk (by decide)
        obtain ⟨c, hc⟩ := hob b e.symm
        rw [hb] at hc
        simp at hc
        exact h1 (by rw [hc.2.1]; decide)
  rw [if_neg k2]
  by_cases k3 : hdW l = wZone
  · rw [if_pos k3]
    refine (take_zone_c B db l w s2 _ c2 _ _ _ hd hB hX hBd hz.row (by have := hk.z; omega) hl k3).mono ?_
    rintro e w' ⟨rfl, a2, d2, q1, q2, q3, q4⟩
    refine ⟨rfl, ⟨_, _, _, _, _, q1, hs.kt q4 (by decide) (by decide), hz.more (wd (cutB 32 l) 1) rfl q4 (by decide) ?_, kt_own q4 hlk (by decide)⟩, q3, kt_more q4 (by decide)⟩
    rw [← wN_wd 1 l]
    exact q2
  rw [if_neg k3]
  by_cases k4 : hdW l = wEra
  · rw [if_pos k4]
    obtain ⟨ss, hss⟩ : ∃ ss, ss = d.zones := ⟨_, rfl⟩
    have hks := hk.z
    have hkr := hk.zs
    rw [← hss] at hz hd hks hkr
    simp only [← hss]
    rcases List.eq_nil_or_concat ss with rfl | ⟨L, ⟨n, r⟩, rfl⟩
    · refine (take_era0_c B db l w s2 c2 _ _ hd hB hX hl k4).mono ?_
      rintro e w' ⟨rfl, q3, q4⟩
      exact ⟨rfl, ⟨_, _, _, _, _, q4 _ _ _ _ hd (by decide), hs.kt q4 (by decide) (by decide), hz.kt q4 (by decide) (by decide), kt_own q4 hlk (by decide)⟩, q3, kt_more q4 (by decide)⟩
    · rw [List.concat_eq_append] at *
      rw [onLast_app]
      have hvl := hz.len
      rcases List.eq_nil_or_concat zs with rfl | ⟨us, u, rfl⟩
      · simp at hvl
      rw [List.concat_eq_append] at *
      have hul : us.length = L.length := by simpa using hvl
      have hlL : (L ++ [(n, r)]).length = L.length + 1 := by simp
      rw [hlL] at hd hks hz
      have hrow := hz.row
      rw [hlL] at hrow
      obtain ⟨g, cc, he⟩ := own_some hrow (by omega)
      injection he with he1 he2 he3
      subst he1
      have hin := hz.ins L.length (n, r) u (by simp) (by rw [← hul]; simp)
      obtain ⟨ra, rc, rfl⟩ := ownS_sl hin
      have hxs : (seL (L ++ [(n, r)]) (us ++ [.slice ra r.length rc]))[L.length * 2 + 1]? = some (.slice ra r.length rc) := by
        rw [seL_app hul.symm, List.getElem?_append_right (by rw [seL_len hul]; omega), seL_len hul]
        have e : L.length * 2 + 1 - L.length * 2 = 1 := by omega
        rw [e]
        rfl
      refine (take_era_c B db g L.length l w c2 _ _ _ (erL r) ra r.length rc hd hB hX hBd hrow hxs hin (by omega) (by have := (hkr (n, r) (by simp)).2.1; simp only at this; omega) hl k4 (erL [eraOf numA (cutB 32 l)]) (by simp only [wN_wd]; rfl)).mono ?_
      rintro e w' ⟨rfl, a2, d2, q1, q2, q3, q4, q5, q6⟩
      have hob := own_at hin
      refine ⟨rfl, ⟨_, _, _, _, _, q1, hs.ko q5 hob (by decide) (by decide) (by decide) (by decide), hz.last (eraOf numA (cutB 32 l)) (by unfold erL; rw [List.flatMap_append]) hul q5 (by decide) q2 q3 q6, ?_⟩, q4, ko_g q5 (by decide) hob (by decide)⟩
      · refine kt_own (ts := [51, 96, 67]) (fun b cs ty fr hb h1 => q5 b cs ty fr hb (fun e => h1 (List.mem_of_mem_take (i := 2) e)) fun e => ?_) hlk (by decide)
        obtain ⟨c, hc⟩ := hob b e.symm
        rw [hb] at hc
        simp at hc
        exact h1 (by rw [hc.2.1]; decide)
  rw [if_neg k4]
  by_cases k5 : hdW l = wLink
  · rw [if_pos k5]
    refine (take_link_c B db l w s3 _ c3 _ _ _ hd hB hX hBd hlk (by have := hk.l; omega) hl k5).mono ?_
    rintro e w' ⟨rfl, a2, d2, q1, q2, q3, q4⟩
    refine ⟨rfl, ⟨_, _, _, _, _, q1, hs.kt q4 (by decide) (by decide), hz.kt q4 (by decide) (by decide), ?_⟩, q3, kt_more q4 (by decide)⟩
    have e : liL (d.links ++ [(wd (cutB 32 l) 1, wd (cutB 32 l) 2)]) = liL d.links ++ [.string ⟨(wN 1 l).toArray⟩, .string ⟨(wN 2 l).toArray⟩] := by
      unfold liL
      rw [List.flatMap_append, wN_wd, wN_wd]
      rfl
    show w'.ownsRow B _ 2 _ (d.links ++ [(wd (cutB 32 l) 1, wd (cutB 32 l) 2)]).length _
    rw [e, List.length_append]
    exact q2
  · rw [if_neg k5]
    refine (take_none_c B db l w hB hX hl k1 k2 k3 k4 k5).mono ?_
    rintro e w' ⟨rfl, q3, q4⟩
    exact ⟨rfl, ⟨_, _, _, _, _, q4 _ _ _ _ hd (by decide), hs.kt q4 (by decide) (by decide), hz.kt q4 (by decide) (by decide), kt_own q4 hlk (by decide)⟩, q3, kt_more q4 (by decide)⟩
/-- the cells of a list, by places -/
theorem flat_row {α : Type} (f : α → List Value) (l : List α) (d0 : α) : l.flatMap f = rowC (fun j => f (l[j]?.getD d0)) l.length := by
  unfold rowC
  rw [List.flatMap_def, list_range l f d0, ← List.flatMap_def]
def slA : Value → Option Addr
  | .slice a _ _ => a
  | _ => none
def slC : Value → Nat
  | .slice _ _ c => c
  | _ => 0
abbrev s00 {α : Type} : By × List α := ([], [])
theorem sl_eq {w : World} {B S n : Nat} {e : TypeId} {v : Value} {xs : List Value} (h : w.ownsRow B e S v n xs) : v = .slice (slA v) n (slC v) := by
  obtain ⟨a, c, rfl⟩ := ownS_sl h
  rfl
theorem seL_row {α : Type} (ss : List (By × List α)) (vs : List Value) (hl : vs.length = ss.length) : seL ss vs = rowC (seC (fun j => ⟨(ss[j]?.getD s00).1.toArray⟩) (fun j => vs[j]?.getD undef)) ss.length := by
  unfold seL
  rw [flat_row _ _ (s00, undef)]
  have e : (ss.zip vs).length = ss.length := by rw [List.length_zip, hl, Nat.min_self]
  rw [e]
  refine rowC_congr fun j hj => ?_
  have h1 : ss[j]? = some ss[j] := List.getElem?_eq_getElem hj
  have h2 : vs[j]? = some (vs[j]'(by omega)) := List.getElem?_eq_getElem _
  have h3 : (ss.zip vs)[j]? = some (ss[j], vs[j]'(by omega)) := by
    rw [List.getElem?_zip_eq_some]
    exact ⟨h1, h2⟩
  rw [h3]
  unfold seC
  simp only [h1, h2, Option.getD_some]
def r00 : Rl := ⟨0, 0, 0, 0, 0, 0, 0, 0, ⟨#[]⟩⟩
def e00 : Er := ⟨0, 0, 0, ⟨#[]⟩, 0⟩
theorem ruL_row (rs : List Rl) : ruL rs = rowC (ruC fun i => rs[i]?.getD r00) rs.length := flat_row _ rs r00
theorem erL_row (es : List Er) : erL es = rowC (erC fun i => es[i]?.getD e00) es.length := flat_row _ es e00
theorem liL_row (ls : List (By × By)) : liL ls = rowC (liC (fun j => ⟨(ls[j]?.getD ([], [])).1.toArray⟩) (fun j => ⟨(ls[j]?.getD ([], [])).2.toArray⟩)) ls.length := flat_row _ ls ([], [])
theorem range_self {α : Type} (l : List α) (d0 : α) : (List.range l.length).map (fun j => l[j]?.getD d0) = l := by
  have := list_range l id d0
  simp only [List.map_id_fun, id] at this
  exact this.symm
theorem se_row2 {w : World} {base n c : Nat} {a : Option Addr} {nm : Nat → ByteArray} {vs : Nat → Value} {e : TypeId} (h : w.ownsRow base e 2 (.slice a n c) n (rowC (seC nm vs) n)) : P2 w a n (fun j => .string (nm j)) vs := by
  obtain ⟨a', c', he, k⟩ := se_row h
  injection he with h1 h2 h3
  subst h1
  exact k
theorem li_row2 {w : World} {base n c : Nat} {a : Option Addr} {l1 l2 : Nat → ByteArray} {e : TypeId} (h : w.ownsRow base e 2 (.slice a n c) n (rowC (liC l1 l2) n)) : P2 w a n (fun j => .string (l1 j)) (fun j => .string (l2 j)) := by
  obtain ⟨a', c', he, k⟩ := li_row h
  injection he with h1 h2 h3
  subst h1
  exact k
theorem ru_row2 {w : World} {base n c : Nat} {a : Option Addr} {rs : Nat → Rl} {e : TypeId} (h : w.ownsRow base e 9 (.slice a n c) n (rowC (ruC rs) n)) : ARow w a n c rs := by
  obtain ⟨a', c', he, k⟩ := ru_row h
  injection he with h1 h2 h3
  subst h1 h3
  exact k
theorem er_row2 {w : World} {base n c : Nat} {a : Option Addr} {es : Nat → Er} {e : TypeId} (h : w.ownsRow base e 5 (.slice a n c) n (rowC (erC es) n)) : ERow w a n es := by
  obtain ⟨a', c', he, k⟩ := er_row h
  injection he with h1 h2 h3
  subst h1
  exact k
theorem at_get {α : Type} {l : List α} {j : Nat} (d0 : α) (hj : j < l.length) : l[j]? = some (l[j]?.getD d0) := by
  rw [List.getElem?_eq_getElem hj]
  rfl
set_option maxHeartbeats 1000000 in
/-- data that were taken, as data in memory -/
theorem gi_dt {B db k M : Nat} {d : PD} {w : World} (h : GI B db d w) (hk : lim k M d) (hk1 : k ≤ maxLen) (hM : M ≤ maxLen) : ∃ D : Dt, w.heap[db]? = some (.cells #[.slice D.sa D.ns D.sc, .slice D.za D.nz D.zc, .slice D.la D.nl D.lc] 26) ∧ (∀ w' : World, KT [26] w w' → DAt w' D) ∧ D.fits ∧ pdOf D = d := by
  obtain ⟨v1, v2, v3, vs, zs, hd, hs, hz, hlk⟩ := h
  obtain ⟨a1, c1, rfl⟩ := ownS_sl hs.row
  obtain ⟨a2, c2, rfl⟩ := ownS_sl hz.row
  obtain ⟨a3, c3, rfl⟩ := ownS_sl hlk
  have hgs : ∀ j, j < d.sets.length → d.sets[j]? = some (d.sets[j]?.getD s00) ∧ vs[j]? = some (vs[j]?.getD undef) := fun j hj => ⟨at_get _ hj, at_get _ (by rw [hs.len]; exact hj)⟩
  have hgz : ∀ j, j < d.zones.length → d.zones[j]? = some (d.zones[j]?.getD s00) ∧ zs[j]? = some (zs[j]?.getD undef) := fun j hj => ⟨at_get _ hj, at_get _ (by rw [hz.len]; exact hj)⟩
  have mem_s : ∀ j, j < d.sets.length → d.sets[j]?.getD s00 ∈ d.sets := fun j hj => List.mem_of_getElem? (hgs j hj).1
  have mem_z : ∀ j, j < d.zones.length → d.zones[j]?.getD s00 ∈ d.zones := fun j hj => List.mem_of_getElem? (hgz j hj).1
  have mem_l : ∀ j, j < d.links.length → d.links[j]?.getD ([], []) ∈ d.links := fun j hj => List.mem_of_getElem? (at_get _ hj)
  have in_s : ∀ j, j < d.sets.length → vs[j]?.getD undef = .slice (slA (vs[j]?.getD undef)) (d.sets[j]?.getD s00).2.length (slC (vs[j]?.getD undef)) := fun j hj => sl_eq (hs.ins j _ _ (hgs j hj).1 (hgs j hj).2)
  have in_z : ∀ j, j < d.zones.length → zs[j]?.getD undef = .slice (slA (zs[j]?.getD undef)) (d.zones[j]?.getD s00).2.length (slC (zs[j]?.getD undef)) := fun j hj => sl_eq (hz.ins j _ _ (hgz j hj).1 (hgz j hj).2)
  refine ⟨{ sa := a1, ns := d.sets.length, sc := c1, ss := fun j => ⟨⟨(d.sets[j]?.getD s00).1.toArray⟩, slA (vs[j]?.getD undef), (d.sets[j]?.getD s00).2.length, slC (vs[j]?.getD undef), fun i => (d.sets[j]?.getD s00).2[i]?.getD r00⟩, za := a2, nz := d.zones.length, zc := c2, zs := fun j => ⟨⟨(d.zones[j]?.getD s00).1.toArray⟩, slA (zs[j]?.getD undef), (d.zones[j]?.getD s00).2.length, slC (zs[j]?.getD undef), fun i => (d.zones[j]?.getD s00).2[i]?.getD e00⟩, la := a3, nl := d.links.length, lc := c3, ls := fun j => ⟨⟨(d.links[j]?.getD ([], [])).1.toArray⟩, ⟨(d.links[j]?.getD ([], [])).2.toArray⟩⟩ }, hd, fun w' hk => ?_, ?_, ?_⟩
  · have hs' := hs.kt hk (by decide) (by decide)
    have hz' := hz.kt hk (by decide) (by decide)
    have hl' := kt_own hk hlk (by decide)
    have r1 := hs'.row
    have r2 := hz'.row
    rw [seL_row _ _ hs.len] at r1
    rw [seL_row _ _ hz.len] at r2
    rw [liL_row] at hl'
    refine ⟨(se_row2 r1).congr rfl fun j hj => ⟨rfl, in_s j hj⟩, fun j hj => ?_, (se_row2 r2).congr rfl fun j hj => ⟨rfl, in_z j hj⟩, fun j hj => ?_, li_row2 hl'⟩
    · have := hs'.ins j _ _ (hgs j hj).1 (hgs j hj).2
      rw [in_s j hj, ruL_row] at this
      exact ru_row2 this
    · have := hz'.ins j _ _ (hgz j hj).1 (hgz j hj).2
      rw [in_z j hj, erL_row] at this
      exact er_row2 this
  · have q : ∀ {l : By}, l.length ≤ M → (⟨l.toArray⟩ : ByteArray).size ≤ maxLen := fun {l} hl => by
      show l.toArray.size ≤ maxLen
      simp
      omega
    refine ⟨Nat.le_trans hk.s hk1, Nat.le_trans hk.z hk1, Nat.le_trans hk.l hk1, fun j hj => q (hk.ss _ (mem_s j hj)).1, fun j hj => Nat.le_trans (hk.ss _ (mem_s j hj)).2.1 hk1, fun j hj i hi => ?_, fun j hj => q (hk.zs _ (mem_z j hj)).1, fun j hj => Nat.le_trans (hk.zs _ (mem_z j hj)).2.1 hk1, fun j hj i hi => ?_, fun j hj => q (hk.ls _ (mem_l j hj)).1, fun j hj => q (hk.ls _ (mem_l j hj)).2⟩
    · exact Nat.le_trans ((hk.ss _ (mem_s j hj)).2.2 _ (List.mem_of_getElem? (at_get _ hi))) hM
    · exact Nat.le_trans ((hk.zs _ (mem_z j hj)).2.2 _ (List.mem_of_getElem? (at_get _ hi))) hM
  · unfold pdOf
    simp only [range_self]
end Go.Proofs.YtbpdbggojgijiaaGreatDoor.Src

/- source.guess: what a text may say, as data in memory. -/
namespace Go.Proofs.YtbpdbggojgijiaaGreatDoor.Src
open Go Go.RowKit Go.Maps
set_option linter.unusedVariables false
set_option linter.unusedSimpArgs false

theorem cut_count {c : UInt8} : ∀ l : By, (cutB c l).length ≤ l.length + 1
  | [] => by simp [cutB]
  | a :: l => by
    have ih := cut_count (c := c) l
    unfold cutB
    split
    · simp
      omega
    · split
      · simp
      · rename_i h t heq
        rw [heq] at ih
        simp at ih ⊢
        omega
theorem takeL_succ (num : By → Int) (ls : List By) (k : Nat) (l : By) (h : ls[k]? = some l) : takeL num pd0 ((ls.take (k + 1)).map (cutB 32)) = takeW num (takeL num pd0 ((ls.take k).map (cutB 32))) (cutB 32 l) := by
  rw [List.take_add_one, h, List.map_append, takeL_app]
  rfl
theorem gi_set {B db b o : Nat} {d : PD} {w : World} {cs : Array Value} {fr : Nat × Nat} (h : GI B db d w) (hb : w.heap[b]? = some (.cells cs 26 fr)) (hne : db ≠ b) (u : Value) : GI B db d (w.setCell ⟨b, o, none⟩ u) := by
  obtain ⟨v1, v2, v3, vs, zs, hd, hs, hz, hlk⟩ := h
  have hk : KT [26] w (w.setCell ⟨b, o, none⟩ u) := kt_set hb (by decide) o u
  exact ⟨v1, v2, v3, vs, zs, (Below.heap_setCell _ _ _ _ hne).trans hd, hs.kt hk (by decide) (by decide), hz.kt hk (by decide) (by decide), kt_own hk hlk (by decide)⟩
theorem gi_new {B db : Nat} {w : World} (hd : w.heap[db]? = some (.cells #[.slice none 0 0, .slice none 0 0, .slice none 0 0] 26)) : GI B db pd0 w :=
  ⟨_, _, _, [], [], hd, ⟨rfl, ⟨rfl, .inl ⟨rfl, rfl⟩⟩, fun j s u hs => by simp [pd0] at hs, fun i j u v _ h => by simp at h⟩, ⟨rfl, ⟨rfl, .inl ⟨rfl, rfl⟩⟩, fun j s u hs => by simp [pd0] at hs, fun i j u v _ h => by simp at h⟩, ⟨rfl, .inl ⟨rfl, rfl⟩⟩⟩
theorem cells3_inj {w : World} {b : Nat} {x y z x' y' z' : Value} {t : TypeId} (h : w.heap[b]? = some (.cells #[x, y, z] t)) (k : w.heap[b]? = some (.cells #[x', y', z'] t)) : x = x' ∧ y = y' ∧ z = z' := by
  rw [h] at k
  simpa using k
/-- the answer -/
def guQ (s : By) (w : World) (e : Ending) (w' : World) : Prop := ∃ D : Dt, e = .returned D.v ∧ (∀ w'' : World, KT [26] w' w'' → DAt w'' D) ∧ D.fits ∧ pdOf D = guessP numA s ∧ Below w.heap.size w w'
set_option maxHeartbeats 4000000 in
set_option maxRecDepth 100000 in
theorem guess_c (s : By) (w : World) (hX : EVs w) (hs : s.length ≤ 4096) :
    Calls Tryz.prog 27 #[.string ⟨s.toArray⟩] w fun e w' => guQ s w e w' := by
  obtain ⟨ls, hls⟩ : ∃ ls, ls = cutB 10 s := ⟨_, rfl⟩
  obtain ⟨n, hn⟩ : ∃ n, ls.length = n := ⟨_, rfl⟩
  have hn1 : n ≤ 4097 := by
    have := cut_count (c := 10) s
    rw [← hls, hn] at this
    omega
  have HLl : Hid (∀ (k : Nat) (l : By), ls[k]? = some l → l.length ≤ 4096) := fun k l hl => by
    have := cut_len (c := 10) (l := s) l (by rw [← hls]; exact List.mem_of_getElem? hl)
    omega
  obtain ⟨Z, hZ⟩ : ∃ Z : Obj, Z = .cells #[.slice none 0 0, .slice none 0 0, .slice none 0 0] 26 := ⟨_, rfl⟩
  obtain ⟨W0, hW0⟩ : ∃ W0, W0 = (w.alloc (.cells #[.slice none 0 0, .slice none 0 0, .slice none 0 0] 26)).alloc (.cells #[.slice none 0 0, .slice none 0 0, .slice none 0 0] 26) := ⟨_, rfl⟩
  have hsz : W0.heap.size = w.heap.size + 2 := by rw [hW0]; simp
  have b0 : Below w.heap.size w W0 := by
    rw [hW0]
    exact bthen ((Below.refl _ w).alloc (Nat.le_refl _) _) ((Below.refl _ _).alloc (Nat.le_refl _) _)
  have r0 : W0.heap[w.heap.size]? = some (.cells #[.slice none 0 0, .slice none 0 0, .slice none 0 0] 26) := by
    rw [hW0]
    exact heap_on (World.alloc_heap_new w _) ((Below.refl _ _).alloc (Nat.le_refl _) _)
  have r1 : W0.heap[w.heap.size + 1]? = some (.cells #[.slice none 0 0, .slice none 0 0, .slice none 0 0] 26) := by
    rw [hW0]
    have := World.alloc_heap_new (w.alloc (.cells #[.slice none 0 0, .slice none 0 0, .slice none 0 0] 26)) (.cells #[.slice none 0 0, .slice none 0 0, .slice none 0 0] 26)
    simpa using this
  obtain ⟨L, hL⟩ : ∃ L : Array Value, L = (ls.map fun l => Value.string ⟨l.toArray⟩).toArray := ⟨_, rfl⟩
  have HC : Hid (Calls Tryz.prog 45 #[.string ⟨s.toArray⟩, .string ⟨#[10]⟩] W0 fun e w' => e = .returned (.slice (some ⟨w.heap.size + 2, 0, none⟩) n n) ∧ w' = W0.alloc (.cells L 9)) := by
    have := split10_c s W0 (hX.on b0).2.2 (by omega)
    rw [← hls, hn, ← hL, hsz] at this
    exact this
  have b1 := (Below.refl _ W0).alloc (Nat.le_refl _) (.cells L 9)
  have HLr : Hid (∀ v : World, v.heap[w.heap.size + 2]? = some (.cells L 9) → ∀ (k : Nat) (l : By), ls[k]? = some l → v.cell? ⟨w.heap.size + 2, k, none⟩ = some (.string ⟨l.toArray⟩)) := fun v hv k l hl => by
    rw [Lib.cell_of_heap hv, hL]
    simp [hl]
  have HX := hideS hX
  have HT : Hid (∀ (k : Nat) (l : By) (v : World), k ≤ 4097 → l.length ≤ 4096 → Hid (GI (w.heap.size + 1) (w.heap.size + 1) (takeL numA pd0 ((ls.take k).map (cutB 32))) v) → Hid (lim k 4096 (takeL numA pd0 ((ls.take k).map (cutB 32)))) → Hid (Below (w.heap.size + 1) W0 v) → Calls Tryz.prog 46 #[.pointer (some ⟨w.heap.size + 1, 0, none⟩), .agg #[.string ⟨l.toArray⟩]] v fun e w' => e = .returned (.tuple #[]) ∧ GI (w.heap.size + 1) (w.heap.size + 1) (takeW numA (takeL numA pd0 ((ls.take k).map (cutB 32))) (cutB 32 l)) w' ∧ Below (w.heap.size + 1) v w' ∧ KT gTs v w') := fun k l v h1 h2 h3 h4 h5 =>
    take_c (w.heap.size + 1) (w.heap.size + 1) l v _ h3.out (h4.out.mono (by omega)) (by have := h5.out.size; omega) (fun u hu => HX.out.on (b0.trans ((h5.out.trans hu).mono (Nat.le_succ _)))) (Nat.le_refl _) (by omega)
  have HS0 : Hid (GI (w.heap.size + 1) (w.heap.size + 1) (takeL numA pd0 ((ls.take 0).map (cutB 32))) (W0.alloc (.cells L 9))) := gi_new (heap_on r1 b1)
  have HB0 : Hid (Below (w.heap.size + 1) W0 (W0.alloc (.cells L 9))) := b1.mono (by omega)
  have HR0 : Hid ((W0.alloc (.cells L 9)).heap[w.heap.size + 2]? = some (.cells L 9)) := by
    have := World.alloc_heap_new W0 (.cells L 9)
    rw [hsz] at this
    exact this
  have HM0 : Hid (lim 0 4096 (takeL numA pd0 ((ls.take 0).map (cutB 32)))) := lim0 4096
  have HB := hideS b0
  have H0 := hideS r0
  have HG : Hid (takeL numA pd0 ((ls.take n).map (cutB 32)) = guessP numA s) := by
    show _ = takeL numA pd0 ((cutB 10 s).map (cutB 32))
    rw [← hls, ← hn, List.take_length]
  have HSz := hideS hsz
  have HW0 := hideS hW0
  have HN := hideS hn
  clear b0 r0 r1 b1 hX hZ Z hL hls hsz hn hW0
  go_enter Tryz.func27, Tryz.ntmps27
  go_wp2_with (go_at_call 45; rw [← HW0.out]; refine HC.out.mono ?_; rintro e w1 ⟨rfl, rfl⟩)
  go_loopw [9] (fun x9 wr => ∃ k : Nat, k ≤ n ∧ x9 = .int .i64 k ∧ Hid (GI (w.heap.size + 1) (w.heap.size + 1) (takeL numA pd0 ((ls.take k).map (cutB 32))) wr) ∧ Hid (lim k 4096 (takeL numA pd0 ((ls.take k).map (cutB 32)))) ∧ Hid (Below (w.heap.size + 1) W0 wr) ∧ Hid (wr.heap[w.heap.size + 2]? = some (.cells L 9))) (fun x9 _ => n - (intOf x9).toNat)
  case atStart => exact ⟨0, Nat.zero_le _, rfl, HS0, HM0, HB0, HR0⟩
  case round =>
    obtain ⟨k, hk, rfl, HI, HM, HBk, HR⟩ := hrel
    by_cases hlt : k < n
    · obtain ⟨l, hl⟩ : ∃ l, ls[k]? = some l := ⟨_, List.getElem?_eq_getElem (by rw [HN.out]; exact hlt)⟩
      have HL1 := hideS hl
      have c0 := HLr.out wr HR.out k l hl
      have hll := HLl.out k l hl
      have HTk := hideS (HT.out k l wr (by omega) hll HI HM HBk)
      have HE := hideS (takeL_succ numA ls k l hl)
      have HW : Hid (∀ i, (wd (cutB 32 l) i).length ≤ 4096) := fun i => Nat.le_trans (wd_len l i) hll
      clear hl
      go_wp2_with (go_at_call 46; refine HTk.out.mono ?_; rintro e w3 ⟨rfl, i3, b3, k3⟩)
      have I3 : Hid (GI (w.heap.size + 1) (w.heap.size + 1) (takeL numA pd0 ((ls.take (k + 1)).map (cutB 32))) w3) := by
        show GI _ _ _ _
        rw [HE.out]
        exact i3
      have M3 : Hid (lim (k + 1) 4096 (takeL numA pd0 ((ls.take (k + 1)).map (cutB 32)))) := by
        show lim _ _ _
        rw [HE.out]
        exact lim_take HM.out HW.out
      have B3 := hideS (HBk.out.trans b3)
      have R3 : Hid (w3.heap[w.heap.size + 2]? = some (.cells L 9)) := k3 _ _ _ _ HR.out (by decide)
      clear i3 b3 k3
      go_roundw
      case rel => exact ⟨k + 1, by omega, by go_num, I3, M3, B3, R3⟩
      case measure => simp [intOf]; omega
    · obtain rfl : n = k := by omega
      rw [HG.out] at HI HM
      obtain ⟨v1, v2, v3, vs, zs, hd, hs1, hz1, hlk1⟩ := HI.out
      obtain ⟨s1, c1, rfl⟩ := ownS_sl hs1.row
      obtain ⟨s2, c2, rfl⟩ := ownS_sl hz1.row
      obtain ⟨s3, c3, rfl⟩ := ownS_sl hlk1
      generalize (guessP numA s).sets.length = n1 at hd
      generalize (guessP numA s).zones.length = n2 at hd
      generalize (guessP numA s).links.length = n3 at hd
      have q0 : wr.heap[w.heap.size]? = some (.cells #[.slice none 0 0, .slice none 0 0, .slice none 0 0] 26) := (HBk.out.block _ (Nat.lt_succ_self _)).trans H0.out
      have HQ0 := hideS q0
      have HD := hideS hd
      obtain ⟨o0, o1, o2⟩ := cells3 hd
      obtain ⟨p0, p1, p2⟩ := cells3 q0
      have f0 := frozen3 q0 0
      have f1 := frozen3 q0 1
      have f2 := frozen3 q0 2
      clear hd hs1 hz1 hlk1 q0
      go_wp2_with fail
      have G1 := gi_set (o := 0) HI.out HQ0.out (by omega) (.slice s1 n1 c1)
      have Q1 := setCell_at (o := 0) HQ0.out (.slice s1 n1 c1)
      have G2 := gi_set (o := 1) G1 Q1 (by omega) (.slice s2 n2 c2)
      have Q2 := setCell_at (o := 1) Q1 (.slice s2 n2 c2)
      have G3 := gi_set (o := 2) G2 Q2 (by omega) (.slice s3 n3 c3)
      have Q3 := setCell_at (o := 2) Q2 (.slice s3 n3 c3)
      obtain ⟨D, hd, hDAt, hF, hpd⟩ := gi_dt G3 HM.out (by unfold maxLen; omega) (by unfold maxLen; omega)
      have hd2 : (((wr.setCell ⟨w.heap.size, 0, none⟩ (.slice s1 n1 c1)).setCell ⟨w.heap.size, 1, none⟩ (.slice s2 n2 c2)).setCell ⟨w.heap.size, 2, none⟩ (.slice s3 n3 c3)).heap[w.heap.size + 1]? = some (.cells #[.slice s1 n1 c1, .slice s2 n2 c2, .slice s3 n3 c3] 26) := (Below.heap_setCell _ _ _ _ (show w.heap.size + 1 ≠ w.heap.size by omega)).trans ((Below.heap_setCell _ _ _ _ (show w.heap.size + 1 ≠ w.heap.size by omega)).trans ((Below.heap_setCell _ _ _ _ (show w.heap.size + 1 ≠ w.heap.size by omega)).trans HD.out))
      obtain ⟨e1, e2, e3⟩ := cells3_inj hd2 hd
      refine bodyPost_ret (v := .agg #[.slice s1 n1 c1, .slice s2 n2 c2, .slice s3 n3 c3]) ?_ rfl (show guQ _ _ _ _ from ⟨D, by rw [e1, e2, e3], hDAt, hF, hpd, ?_⟩)
      · obtain ⟨y0, y1, y2⟩ := cells3 Q3
        simp [results, Tryz.results27, go_sem, y0, y1, y2]
      · have bb := HB.out.trans (HBk.out.mono (Nat.le_succ _))
        exact ((bb.setCell (p := ⟨w.heap.size, 0, none⟩) (by simp) _).setCell (p := ⟨w.heap.size, 1, none⟩) (by simp) _).setCell (p := ⟨w.heap.size, 2, none⟩) (by simp) _
end Go.Proofs.YtbpdbggojgijiaaGreatDoor.Src

/- source.Show and source.Read, whatever they are handed. -/
namespace Go.Proofs.YtbpdbggojgijiaaGreatDoor.Src
open Go Go.RowKit Go.Maps
set_option linter.unusedVariables false
set_option linter.unusedSimpArgs false

theorem gTab : Tryz.prog.globalNamed "internal/strconv.uint64pow10" = some 0 := by kernel_rfl
/-- what the package's calls read of the world -/
structure SrE (w : World) : Prop where
  laid : Laid w
  evs : EVs w
  tab : TabW w
theorem SrE.on {w w' : World} (h : SrE w) (hb : Below w.heap.size w w') : SrE w' := ⟨h.laid.on hb, h.evs.on hb, Joins.tab_stays gTab h.tab hb (Nat.le_refl _)⟩
/-- the text that is told beside the error -/
def shT (D : Dt) : By := if chkE D = 0 then showD D else []
theorem Show_c (D : Dt) (w : World) (hE : SrE w) (hD : DAt w D) (hF : D.fits) :
    Calls Tryz.prog 5 #[D.v] w fun e w' => e = .returned (.tuple #[.string ⟨(shT D).toArray⟩, .int .i64 (chkE D)]) ∧ Below w.heap.size w w' := by
  by_cases h : chkE D = 0
  · refine (Show_ok D w ⟨hE.laid, hE.evs.2.2, hD⟩ hF hE.tab h (sh_ok h) (fun v hv => (hE.on hv).tab)).mono ?_
    rintro e w' ⟨rfl, hb⟩
    unfold shT
    rw [if_pos h, h]
    exact ⟨rfl, hb⟩
  · refine (Show_no D w ⟨hE.laid, hE.evs.2.2, hD⟩ hF h).mono ?_
    rintro e w' ⟨rfl, hb⟩
    unfold shT
    rw [if_neg h]
    exact ⟨rfl, hb⟩
abbrev zD : Value := .agg #[.slice none 0 0, .slice none 0 0, .slice none 0 0]
/-- what Read answers -/
def rdQ (s : By) (e : Ending) (w' : World) : Prop := (4096 < s.length ∧ e = .returned (.tuple #[zD, .int .i64 2])) ∨ (s.length ≤ 4096 ∧ ∃ D : Dt, DAt w' D ∧ D.fits ∧ pdOf D = guessP numA s ∧ ((chkE D = 0 ∧ showD D = s ∧ e = .returned (.tuple #[D.v, .int .i64 0])) ∨ (¬ (chkE D = 0 ∧ showD D = s) ∧ e = .returned (.tuple #[zD, .int .i64 1]))))
set_option maxHeartbeats 4000000 in
set_option maxRecDepth 100000 in
theorem Read_c (s : By) (w : World) (hE : SrE w) : Calls Tryz.prog 8 #[.string ⟨s.toArray⟩] w fun e w' => rdQ s e w' ∧ Below w.heap.size w w' := by
  have hb0 := (Below.refl _ w).alloc (Nat.le_refl _) (.cells #[.slice none 0 0, .slice none 0 0, .slice none 0 0] 26)
  have HB0 := hideS hb0
  have HE := hideS (hE.on hb0)
  have Z0 : Hid ((w.alloc (.cells #[.slice none 0 0, .slice none 0 0, .slice none 0 0] 26)).heap[w.heap.size]? = some (.cells #[.slice none 0 0, .slice none 0 0, .slice none 0 0] 26)) := World.alloc_heap_new _ _
  by_cases hs : 4096 < s.length
  · clear hb0 hE
    have hs2 : (4096 : Int) < s.length := by omega
    go_enter Tryz.func8, Tryz.ntmps8
    go_wp2_with fail
    refine bodyPost_ret (v := .tuple #[zD, .int .i64 2]) ?_ rfl ⟨.inl ⟨hs, rfl⟩, ?_⟩
    · simp [results, Tryz.results8, go_sem]
    · exact HB0.out
  · have HC := hideS (guess_c s _ (hE.evs.on hb0) (by omega))
    clear hb0 hE
    have hs2 : ¬ (4096 : Int) < s.length := by omega
    have hs3 : s.length ≤ 4096 := by omega
    go_enter Tryz.func8, Tryz.ntmps8
    go_wp2_with (go_at_call 27; refine HC.out.mono ?_; rintro e w1 ⟨D, rfl, d1, f1, p1, b1⟩; refine unhid ?_)
    obtain ⟨x1, x2, x3, hx⟩ : ∃ x1 x2 x3, D.v = .agg #[x1, x2, x3] := ⟨_, _, _, rfl⟩
    have b2 := (Below.refl _ w1).alloc (Nat.le_refl _) (.cells #[.slice D.sa D.ns D.sc, .slice D.za D.nz D.zc, .slice D.la D.nl D.lc] 26)
    have b12 := bthen b1 b2
    have HS := hideS (Show_c D _ (HE.out.on b12) (d1 _ (kt_on b2)) f1)
    have Q1 : Hid ((w1.alloc (.cells #[.slice D.sa D.ns D.sc, .slice D.za D.nz D.zc, .slice D.la D.nl D.lc] 26)).heap[w1.heap.size]? = some (.cells #[.slice D.sa D.ns D.sc, .slice D.za D.nz D.zc, .slice D.la D.nl D.lc] 26)) := World.alloc_heap_new _ _
    have Z1 := hideS (heap_on Z0.out b12)
    have B12 := hideS b12
    have D1 : Hid (∀ w'' : World, KT [26] (w1.alloc (.cells #[.slice D.sa D.ns D.sc, .slice D.za D.nz D.zc, .slice D.la D.nl D.lc] 26)) w'' → DAt w'' D) := fun w'' hk => d1 w'' ((kt_on b2).trans hk)
    have F1 := hideS f1
    have P1 := hideS p1
    have BW := hideS (bthen HB0.out b12)
    have hne : Hid (w.heap.size < w1.heap.size) := by have := b1.size; simp at this; exact this
    obtain ⟨E0, hE0⟩ : ∃ E0, E0 = chkE D := ⟨_, rfl⟩
    obtain ⟨T, hT⟩ : ∃ T, T = shT D := ⟨_, rfl⟩
    rw [← hE0, ← hT] at HS
    have HQ : Hid (∀ W' e, DAt W' D → ((E0 = 0 ∧ T = s ∧ e = .returned (.tuple #[D.v, .int .i64 0])) ∨ (¬ (E0 = 0 ∧ T = s) ∧ e = .returned (.tuple #[zD, .int .i64 1]))) → rdQ s e W') := fun W' e hd h => by
      refine .inr ⟨hs3, D, hd, F1.out, P1.out, ?_⟩
      rw [← hE0]
      have key : E0 = 0 → T = showD D := fun h0 => by
        rw [hT]
        unfold shT
        rw [← hE0, if_pos h0]
      rcases h with ⟨h1, h2, h3⟩ | ⟨h1, h2⟩
      · exact .inl ⟨h1, by rw [← key h1]; exact h2, h3⟩
      · exact .inr ⟨fun ⟨k1, k2⟩ => h1 ⟨k1, by rw [key k1]; exact k2⟩, h2⟩
    obtain ⟨W2, hW2⟩ : ∃ W2, W2 = w1.alloc (.cells #[.slice D.sa D.ns D.sc, .slice D.za D.nz D.zc, .slice D.la D.nl D.lc] 26) := ⟨_, rfl⟩
    obtain ⟨g, hg⟩ : ∃ g, g = w1.heap.size := ⟨_, rfl⟩
    rw [← hW2] at HS Q1 Z1 B12 D1 BW
    rw [← hg] at Q1 hne
    clear b2 b12 d1 f1 p1 b1 HC hE0 hT hx
    refine hideS ?_
    go_upto_region 4 with fail
    try simp only [← hg, ← hW2]
    clear hW2 hg
    obtain ⟨a0, a1, a2⟩ := cells3 Q1.out
    go_wp2_with (go_at_call 5; refine HS.out.mono ?_; rintro e w3 ⟨rfl, b3⟩; refine unhid ?_)
    have Q3 := hideS (heap_on Q1.out b3)
    have Z3 := hideS (heap_on Z1.out b3)
    have D3 : Hid (∀ w'' : World, KT [26] w3 w'' → DAt w'' D) := fun w'' hk => D1.out w'' ((kt_on b3).trans hk)
    have BW3 := hideS (bthen BW.out b3)
    obtain ⟨y0, y1, y2⟩ := cells3 Q3.out
    obtain ⟨z0, z1, z2⟩ := cells3 Z3.out
    have f0 := frozen3 Z3.out 0
    have f1 := frozen3 Z3.out 1
    have f2 := frozen3 Z3.out 2
    clear b3 HS Q1 Z1 D1 BW B12 a0 a1 a2
    refine hideS ?_
    by_cases h0 : E0 = 0
    · by_cases hT : T = s
      · subst h0 hT
        go_wp2_with fail
        have Q1 := setCell_at (o := 0) Z3.out (.slice D.sa D.ns D.sc)
        have Q2 := setCell_at (o := 1) Q1 (.slice D.za D.nz D.zc)
        have Q4 := setCell_at (o := 2) Q2 (.slice D.la D.nl D.lc)
        have kk := ((kt_set (ts := [26]) Z3.out (by decide) 0 (.slice D.sa D.ns D.sc)).trans (kt_set Q1 (by decide) 1 (.slice D.za D.nz D.zc))).trans (kt_set Q2 (by decide) 2 (.slice D.la D.nl D.lc))
        refine bodyPost_ret (v := .tuple #[.agg #[.slice D.sa D.ns D.sc, .slice D.za D.nz D.zc, .slice D.la D.nl D.lc], .int .i64 0]) ?_ rfl ⟨HQ.out _ _ (D3.out _ kk) ?_, ?_⟩
        · obtain ⟨x0, x1, x2⟩ := cells3 Q4
          simp [results, Tryz.results8, go_sem, x0, x1, x2]
        · first | exact .inl ⟨rfl, rfl, rfl⟩ | exact .inl ⟨trivial, trivial, rfl⟩
        · exact ((BW3.out.setCell (p := ⟨w.heap.size, 0, none⟩) (by simp) _).setCell (p := ⟨w.heap.size, 1, none⟩) (by simp) _).setCell (p := ⟨w.heap.size, 2, none⟩) (by simp) _
      · have e1 : (T == s) = false := beq_eq_false_iff_ne.2 hT
        subst h0
        go_wp2_with fail
        have Q1 := setCell_at (o := 0) Z3.out (.slice none 0 0)
        have Q2 := setCell_at (o := 1) Q1 (.slice none 0 0)
        have Q4 := setCell_at (o := 2) Q2 (.slice none 0 0)
        have kk := ((kt_set (ts := [26]) Z3.out (by decide) 0 (.slice none 0 0)).trans (kt_set Q1 (by decide) 1 (.slice none 0 0))).trans (kt_set Q2 (by decide) 2 (.slice none 0 0))
        refine bodyPost_ret (v := .tuple #[.agg #[.slice none 0 0, .slice none 0 0, .slice none 0 0], .int .i64 1]) ?_ rfl ⟨HQ.out _ _ (D3.out _ kk) ?_, ?_⟩
        · obtain ⟨x0, x1, x2⟩ := cells3 Q4
          simp [results, Tryz.results8, go_sem, x0, x1, x2]
        · exact .inr ⟨fun h => hT h.2, rfl⟩
        · exact ((BW3.out.setCell (p := ⟨w.heap.size, 0, none⟩) (by simp) _).setCell (p := ⟨w.heap.size, 1, none⟩) (by simp) _).setCell (p := ⟨w.heap.size, 2, none⟩) (by simp) _
    · have e0 : decide (E0 = 0) = false := decide_eq_false h0
      go_wp2_with fail
      have Q1 := setCell_at (o := 0) Z3.out (.slice none 0 0)
      have Q2 := setCell_at (o := 1) Q1 (.slice none 0 0)
      have Q4 := setCell_at (o := 2) Q2 (.slice none 0 0)
      have kk := ((kt_set (ts := [26]) Z3.out (by decide) 0 (.slice none 0 0)).trans (kt_set Q1 (by decide) 1 (.slice none 0 0))).trans (kt_set Q2 (by decide) 2 (.slice none 0 0))
      refine bodyPost_ret (v := .tuple #[.agg #[.slice none 0 0, .slice none 0 0, .slice none 0 0], .int .i64 1]) ?_ rfl ⟨HQ.out _ _ (D3.out _ kk) ?_, ?_⟩
      · obtain ⟨x0, x1, x2⟩ := cells3 Q4
        simp [results, Tryz.results8, go_sem, x0, x1, x2]
      · exact .inr ⟨fun h => h0 h.1, rfl⟩
      · exact ((BW3.out.setCell (p := ⟨w.heap.size, 0, none⟩) (by simp) _).setCell (p := ⟨w.heap.size, 1, none⟩) (by simp) _).setCell (p := ⟨w.heap.size, 2, none⟩) (by simp) _
end Go.Proofs.YtbpdbggojgijiaaGreatDoor.Src

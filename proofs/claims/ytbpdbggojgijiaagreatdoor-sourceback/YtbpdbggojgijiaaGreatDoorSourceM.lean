/- Data as text, plain: lines of words; what is read of them. -/
import Derived.Test.YtbpdbggojgijiaaGreatDoorDataAAll
namespace Go.Proofs.YtbpdbggojgijiaaGreatDoor.Src
open Go
set_option linter.unusedVariables false

abbrev By := List UInt8
/-- a text cut at a byte -/
def cutB (c : UInt8) : By → List By
  | [] => [[]]
  | a :: l => if a = c then [] :: cutB c l else match cutB c l with
    | [] => [[a]]
    | h :: t => (a :: h) :: t
theorem cutB_ne (c : UInt8) : ∀ l, cutB c l ≠ []
  | [] => by simp [cutB]
  | a :: l => by
    unfold cutB
    split
    · simp
    · split <;> simp
/-- what has no such byte is one piece -/
theorem cutB_none {c : UInt8} : ∀ {l : By}, c ∉ l → cutB c l = [l]
  | [], _ => rfl
  | a :: l, h => by
    have h1 : a ≠ c := fun e => h (by rw [e]; exact List.mem_cons_self)
    have h2 : c ∉ l := fun e => h (List.mem_cons_of_mem _ e)
    unfold cutB
    rw [if_neg h1, cutB_none h2]
theorem cutB_app {c : UInt8} : ∀ {l : By} (m : By), c ∉ l → cutB c (l ++ c :: m) = l :: cutB c m
  | [], m, _ => by
    show (if c = c then [] :: cutB c m else match cutB c m with | [] => [[c]] | h :: t => (c :: h) :: t) = _
    rw [if_pos rfl]
  | a :: l, m, h => by
    have h1 : a ≠ c := fun e => h (by rw [e]; exact List.mem_cons_self)
    have h2 : c ∉ l := fun e => h (List.mem_cons_of_mem _ e)
    show (if a = c then [] :: cutB c (l ++ c :: m) else match cutB c (l ++ c :: m) with | [] => [[a]] | h :: t => (a :: h) :: t) = _
    rw [if_neg h1, cutB_app m h2]
/-- words with one blank between each two -/
def joinW : List By → By
  | [] => []
  | [w] => w
  | w :: v :: ws => w ++ 32 :: joinW (v :: ws)
theorem cut_join : ∀ {ws : List By}, ws ≠ [] → (∀ w ∈ ws, (32 : UInt8) ∉ w) → cutB 32 (joinW ws) = ws
  | [], h, _ => absurd rfl h
  | [w], _, h => cutB_none (h w (by simp))
  | w :: v :: ws, _, h => by
    unfold joinW
    rw [cutB_app _ (h w (by simp)), cut_join (by simp) (fun x hx => h x (by simp only [List.mem_cons] at hx ⊢; exact .inr hx))]
/-- lines, a line feed behind each -/
def linesB (ls : List By) : By := ls.flatMap fun l => l ++ [10]
theorem cut_lines : ∀ {ls : List By}, (∀ l ∈ ls, (10 : UInt8) ∉ l) → cutB 10 (linesB ls) = ls ++ [[]]
  | [], _ => rfl
  | l :: ls, h => by
    have e : linesB (l :: ls) = l ++ 10 :: linesB ls := by
      unfold linesB
      rw [List.flatMap_cons, List.append_assoc]
      rfl
    rw [e, cutB_app _ (h l (by simp)), cut_lines (fun x hx => h x (by simp [hx]))]
    rfl
theorem join_mem {c : UInt8} (hc : c ≠ 32) : ∀ {ws : List By}, (∀ w ∈ ws, c ∉ w) → c ∉ joinW ws
  | [], _ => by simp [joinW]
  | [w], h => h w (by simp)
  | w :: v :: ws, h => by
    unfold joinW
    intro hm
    rcases List.mem_append.1 hm with h1 | h1
    · exact h w (by simp) h1
    · rcases List.mem_cons.1 h1 with h2 | h2
      · exact hc h2
      · exact join_mem hc (fun x hx => h x (by simp only [List.mem_cons] at hx ⊢; exact .inr hx)) h2
/-- data, as lists -/
structure PD where
  sets : List (By × List Rl)
  zones : List (By × List Er)
  links : List (By × By)
abbrev wSet : By := [115, 101, 116]
abbrev wRule : By := [114, 117, 108, 101]
abbrev wZone : By := [122, 111, 110, 101]
abbrev wEra : By := [101, 114, 97]
abbrev wLink : By := [108, 105, 110, 107]
variable (dig : Int → By)
/-- the letter, or what stands for none -/
def letW (r : Rl) : By := if r.s.data.toList = [] then [45] else r.s.data.toList
def lnRule (r : Rl) : List By := [wRule, dig r.f, dig r.t, dig r.m, dig r.k, dig r.wk, dig r.D, dig r.a, dig r.sv, letW r]
def lnEra (x : Er) : List By := [wEra, dig x.std, dig x.set, dig x.sv, x.fm.data.toList, dig x.un]
def lnSet (s : By × List Rl) : List (List By) := [wSet, s.1] :: s.2.map (lnRule dig)
def lnZone (z : By × List Er) : List (List By) := [wZone, z.1] :: z.2.map (lnEra dig)
def lnLink (l : By × By) : List By := [wLink, l.1, l.2]
/-- all lines, as words -/
def lnAll (d : PD) : List (List By) := d.sets.flatMap (lnSet dig) ++ (d.zones.flatMap (lnZone dig) ++ d.links.map lnLink)
/-- data as text -/
def showP (d : PD) : By := linesB ((lnAll dig d).map joinW)
variable (num : By → Int)
def wd (ws : List By) (i : Nat) : By := ws.getD i []
def ruleOf (ws : List By) : Rl := ⟨num (wd ws 1), num (wd ws 2), num (wd ws 3), num (wd ws 4), num (wd ws 5), num (wd ws 6), num (wd ws 7), num (wd ws 8), ⟨(if wd ws 9 = [45] then [] else wd ws 9).toArray⟩⟩
def eraOf (ws : List By) : Er := ⟨num (wd ws 1), num (wd ws 2), num (wd ws 3), ⟨(wd ws 4).toArray⟩, num (wd ws 5)⟩
/-- one more at the last one's end -/
def onLast {α : Type} (x : α) : List (By × List α) → List (By × List α)
  | [] => []
  | [s] => [(s.1, s.2 ++ [x])]
  | s :: t :: l => s :: onLast x (t :: l)
/-- a line is taken -/
def takeW (d : PD) (ws : List By) : PD :=
  if wd ws 0 = wSet then { d with sets := d.sets ++ [(wd ws 1, [])] }
  else if wd ws 0 = wRule then { d with sets := onLast (ruleOf num ws) d.sets }
  else if wd ws 0 = wZone then { d with zones := d.zones ++ [(wd ws 1, [])] }
  else if wd ws 0 = wEra then { d with zones := onLast (eraOf num ws) d.zones }
  else if wd ws 0 = wLink then { d with links := d.links ++ [(wd ws 1, wd ws 2)] }
  else d
def pd0 : PD := ⟨[], [], []⟩
def takeL (d : PD) (ls : List (List By)) : PD := ls.foldl (takeW num) d
/-- what a text may say -/
def guessP (s : By) : PD := takeL num pd0 ((cutB 10 s).map (cutB 32))
theorem onLast_app {α : Type} (x : α) : ∀ (l : List (By × List α)) (n : By) (r : List α), onLast x (l ++ [(n, r)]) = l ++ [(n, r ++ [x])]
  | [], n, r => rfl
  | [s], n, r => rfl
  | s :: t :: l, n, r => by
    show s :: onLast x (t :: l ++ [(n, r)]) = _
    rw [onLast_app x (t :: l) n r]
    rfl
theorem takeL_app (d : PD) (a b : List (List By)) : takeL num d (a ++ b) = takeL num (takeL num d a) b := List.foldl_append
variable {dig num}
/-- a rule, an era that is read as it was -/
def okRule (dig : Int → By) (num : By → Int) (r : Rl) : Prop := num (dig r.f) = r.f ∧ num (dig r.t) = r.t ∧ num (dig r.m) = r.m ∧ num (dig r.k) = r.k ∧ num (dig r.wk) = r.wk ∧ num (dig r.D) = r.D ∧ num (dig r.a) = r.a ∧ num (dig r.sv) = r.sv ∧ r.s.data.toList ≠ [45]
def okEra (dig : Int → By) (num : By → Int) (x : Er) : Prop := num (dig x.std) = x.std ∧ num (dig x.set) = x.set ∧ num (dig x.sv) = x.sv ∧ num (dig x.un) = x.un
theorem rule_back {r : Rl} (h : okRule dig num r) : ruleOf num (lnRule dig r) = r := by
  obtain ⟨h1, h2, h3, h4, h5, h6, h7, h8, h9⟩ := h
  unfold ruleOf lnRule wd
  simp only [List.getD_cons_zero, List.getD_cons_succ, h1, h2, h3, h4, h5, h6, h7, h8]
  cases r with
  | mk a b c d e f g i s =>
    congr 1
    simp only at h9
    unfold letW
    simp only
    by_cases he : s.data.toList = []
    · rw [if_pos he, if_pos rfl]
      cases s with
      | mk x =>
        simp only at he
        congr 1
        rw [← Array.toList_inj, he]
    · rw [if_neg he, if_neg h9]
theorem era_back {x : Er} (h : okEra dig num x) : eraOf num (lnEra dig x) = x := by
  obtain ⟨h1, h2, h3, h4⟩ := h
  unfold eraOf lnEra wd
  simp only [List.getD_cons_zero, List.getD_cons_succ, h1, h2, h3, h4]
theorem take_rules (d : PD) (l : List (By × List Rl)) (n : By) : ∀ (rs r0 : List Rl), (∀ r ∈ rs, okRule dig num r) → takeL num { d with sets := l ++ [(n, r0)] } (rs.map (lnRule dig)) = { d with sets := l ++ [(n, r0 ++ rs)] }
  | [], r0, _ => by simp [takeL]
  | r :: rs, r0, h => by
    have e : takeW num { d with sets := l ++ [(n, r0)] } (lnRule dig r) = { d with sets := l ++ [(n, r0 ++ [r])] } := by
      unfold takeW
      have h0 : wd (lnRule dig r) 0 = wRule := rfl
      rw [h0, if_neg (by decide), if_pos rfl, rule_back (h r (by simp))]
      simp only [onLast_app]
    show takeL num (takeW num { d with sets := l ++ [(n, r0)] } (lnRule dig r)) (rs.map (lnRule dig)) = _
    rw [e, take_rules d l n rs (r0 ++ [r]) (fun x hx => h x (by simp [hx]))]
    simp
theorem take_eras (d : PD) (l : List (By × List Er)) (n : By) : ∀ (rs r0 : List Er), (∀ r ∈ rs, okEra dig num r) → takeL num { d with zones := l ++ [(n, r0)] } (rs.map (lnEra dig)) = { d with zones := l ++ [(n, r0 ++ rs)] }
  | [], r0, _ => by simp [takeL]
  | r :: rs, r0, h => by
    have e : takeW num { d with zones := l ++ [(n, r0)] } (lnEra dig r) = { d with zones := l ++ [(n, r0 ++ [r])] } := by
      unfold takeW
      have h0 : wd (lnEra dig r) 0 = wEra := rfl
      rw [h0, if_neg (by decide), if_neg (by decide), if_neg (by decide), if_pos rfl, era_back (h r (by simp))]
      simp only [onLast_app]
    show takeL num (takeW num { d with zones := l ++ [(n, r0)] } (lnEra dig r)) (rs.map (lnEra dig)) = _
    rw [e, take_eras d l n rs (r0 ++ [r]) (fun x hx => h x (by simp [hx]))]
    simp
theorem take_sets (d : PD) : ∀ (ss l : List (By × List Rl)), (∀ s ∈ ss, ∀ r ∈ s.2, okRule dig num r) → takeL num { d with sets := l } (ss.flatMap (lnSet dig)) = { d with sets := l ++ ss }
  | [], l, _ => by simp [takeL]
  | s :: ss, l, h => by
    rw [List.flatMap_cons, takeL_app]
    have e : takeL num { d with sets := l } (lnSet dig s) = { d with sets := l ++ [s] } := by
      have e1 : takeW num { d with sets := l } [wSet, s.1] = { d with sets := l ++ [(s.1, [])] } := by
        unfold takeW
        have h0 : wd [wSet, s.1] 0 = wSet := rfl
        rw [h0, if_pos rfl]
        rfl
      show takeL num (takeW num { d with sets := l } [wSet, s.1]) (s.2.map (lnRule dig)) = _
      rw [e1, take_rules d l s.1 s.2 [] (h s (by simp))]
      rfl
    rw [e, take_sets d ss (l ++ [s]) (fun x hx => h x (by simp [hx]))]
    simp
theorem take_zones (d : PD) : ∀ (ss l : List (By × List Er)), (∀ s ∈ ss, ∀ r ∈ s.2, okEra dig num r) → takeL num { d with zones := l } (ss.flatMap (lnZone dig)) = { d with zones := l ++ ss }
  | [], l, _ => by simp [takeL]
  | s :: ss, l, h => by
    rw [List.flatMap_cons, takeL_app]
    have e : takeL num { d with zones := l } (lnZone dig s) = { d with zones := l ++ [s] } := by
      have e1 : takeW num { d with zones := l } [wZone, s.1] = { d with zones := l ++ [(s.1, [])] } := by
        unfold takeW
        have h0 : wd [wZone, s.1] 0 = wZone := rfl
        rw [h0, if_neg (by decide), if_neg (by decide), if_pos rfl]
        rfl
      show takeL num (takeW num { d with zones := l } [wZone, s.1]) (s.2.map (lnEra dig)) = _
      rw [e1, take_eras d l s.1 s.2 [] (h s (by simp))]
      rfl
    rw [e, take_zones d ss (l ++ [s]) (fun x hx => h x (by simp [hx]))]
    simp
theorem take_links (d : PD) : ∀ (ls l : List (By × By)), takeL num { d with links := l } (ls.map lnLink) = { d with links := l ++ ls }
  | [], l => by simp [takeL]
  | x :: ls, l => by
    have e : takeW num { d with links := l } (lnLink x) = { d with links := l ++ [x] } := by
      unfold takeW
      have h0 : wd (lnLink x) 0 = wLink := rfl
      rw [h0, if_neg (by decide), if_neg (by decide), if_neg (by decide), if_neg (by decide), if_pos rfl]
      rfl
    show takeL num (takeW num { d with links := l } (lnLink x)) (ls.map lnLink) = _
    rw [e, take_links d ls (l ++ [x])]
    simp
structure okPD (dig : Int → By) (num : By → Int) (d : PD) : Prop where
  rules : ∀ s ∈ d.sets, ∀ r ∈ s.2, okRule dig num r
  eras : ∀ z ∈ d.zones, ∀ x ∈ z.2, okEra dig num x
theorem take_all {d : PD} (h : okPD dig num d) : takeL num pd0 (lnAll dig d) = d := by
  unfold lnAll
  rw [takeL_app, takeL_app]
  have e1 := take_sets (dig := dig) (num := num) pd0 d.sets [] h.rules
  have e2 := take_zones (dig := dig) (num := num) ⟨d.sets, [], []⟩ d.zones [] h.eras
  have e3 := take_links (num := num) ⟨d.sets, d.zones, []⟩ d.links []
  simp only [List.nil_append] at e1 e2 e3
  show takeL num (takeL num (takeL num { pd0 with sets := [] } _) _) _ = d
  rw [e1]
  show takeL num (takeL num { (⟨d.sets, [], []⟩ : PD) with zones := [] } _) _ = d
  rw [e2]
  exact e3
/-- no word has a blank or a line feed -/
def clean (ws : List By) : Prop := ws ≠ [] ∧ ∀ w ∈ ws, (32 : UInt8) ∉ w ∧ (10 : UInt8) ∉ w
theorem cut_show {d : PD} (h : ∀ ws ∈ lnAll dig d, clean ws) : (cutB 10 (showP dig d)).map (cutB 32) = lnAll dig d ++ [[[]]] := by
  unfold showP
  rw [cut_lines]
  · rw [List.map_append, List.map_map]
    congr 1
    refine (List.map_congr_left fun ws hw => ?_).trans (List.map_id _)
    exact cut_join (h ws hw).1 (fun w hx => ((h ws hw).2 w hx).1)
  · intro l hl
    obtain ⟨ws, hw, rfl⟩ := List.mem_map.1 hl
    exact join_mem (by decide) (fun w hx => ((h ws hw).2 w hx).2)
/-- what is shown is read as it was -/
theorem guess_show {d : PD} (h : okPD dig num d) (hc : ∀ ws ∈ lnAll dig d, clean ws) : guessP num (showP dig d) = d := by
  unfold guessP
  rw [cut_show hc, takeL_app, take_all h]
  rfl
end Go.Proofs.YtbpdbggojgijiaaGreatDoor.Src

/- Data as text, plain: lines of words; what is read of them. -/
import Derived.Test.YtbpdbggojgijiaaGreatDoorDataAAll
import Derived.Test.YtbpdbggojgijiaaGreatDoorShelf
import Derived.WalkKit
import Derived.Lib.Builder
import Derived.Lib.AppendStr
import Derived.Lib.UnsafeStr
import Derived.Laws.Externs
import Derived.Lib.SmallJoins
import Derived.Test.YtbpdbggojgijiaaGreatDoorDataKAll
namespace Go.Proofs.YtbpdbggojgijiaaGreatDoor.Src
open Go
set_option linter.unusedVariables false

abbrev By := List UInt8
/-- a text cut at a byte -/
def cutB (c : UInt8) : By → List By
  | [] => [[]]
  | a :: l => if a = c then [] :: cutB c l else match cutB c l with
    | [] => [[a]]
    | h :: t => (a :: h) :: t
theorem cutB_ne (c : UInt8) : ∀ l, cutB c l ≠ []
  | [] => by simp [cutB]
  | a :: l => by
    unfold cutB
    split
    · simp
    · split <;> simp
/-- what has no such byte is one piece -/
theorem cutB_none {c : UInt8} : ∀ {l : By}, c ∉ l → cutB c l = [l]
  | [], _ => rfl
  | a :: l, h => by
    have h1 : a ≠ c := fun e => h (by rw [e]; exact List.mem_cons_self)
    have h2 : c ∉ l := fun e => h (List.mem_cons_of_mem _ e)
    unfold cutB
    rw [if_neg h1, cutB_none h2]
theorem cutB_app {c : UInt8} : ∀ {l : By} (m : By), c ∉ l → cutB c (l ++ c :: m) = l :: cutB c m
  | [], m, _ => by
    show (if c = c then [] :: cutB c m else match cutB c m with | [] => [[c]] | h :: t => (c :: h) :: t) = _
    rw [if_pos rfl]
  | a :: l, m, h => by
    have h1 : a ≠ c := fun e => h (by rw [e]; exact List.mem_cons_self)
    have h2 : c ∉ l := fun e => h (List.mem_cons_of_mem _ e)
    show (if a = c then [] :: cutB c (l ++ c :: m) else match cutB c (l ++ c :: m) with | [] => [[a]] | h :: t => (a :: h) :: t) = _
    rw [if_neg h1, cutB_app m h2]
/-- words with one blank between each two -/
def joinW : List By → By
  | [] => []
  | [w] => w
  | w :: v :: ws => w ++ 32 :: joinW (v :: ws)
theorem cut_join : ∀ {ws : List By}, ws ≠ [] → (∀ w ∈ ws, (32 : UInt8) ∉ w) → cutB 32 (joinW ws) = ws
  | [], h, _ => absurd rfl h
  | [w], _, h => cutB_none (h w (by simp))
  | w :: v :: ws, _, h => by
    unfold joinW
    rw [cutB_app _ (h w (by simp)), cut_join (by simp) (fun x hx => h x (by simp only [List.mem_cons] at hx ⊢; exact .inr hx))]
/-- lines, a line feed behind each -/
def linesB (ls : List By) : By := ls.flatMap fun l => l ++ [10]
theorem cut_lines : ∀ {ls : List By}, (∀ l ∈ ls, (10 : UInt8) ∉ l) → cutB 10 (linesB ls) = ls ++ [[]]
  | [], _ => rfl
  | l :: ls, h => by
    have e : linesB (l :: ls) = l ++ 10 :: linesB ls := by
      unfold linesB
      rw [List.flatMap_cons, List.append_assoc]
      rfl
    rw [e, cutB_app _ (h l (by simp)), cut_lines (fun x hx => h x (by simp [hx]))]
    rfl
theorem join_mem {c : UInt8} (hc : c ≠ 32) : ∀ {ws : List By}, (∀ w ∈ ws, c ∉ w) → c ∉ joinW ws
  | [], _ => by simp [joinW]
  | [w], h => h w (by simp)
  | w :: v :: ws, h => by
    unfold joinW
    intro hm
    rcases List.mem_append.1 hm with h1 | h1
    · exact h w (by simp) h1
    · rcases List.mem_cons.1 h1 with h2 | h2
      · exact hc h2
      · exact join_mem hc (fun x hx => h x (by simp only [List.mem_cons] at hx ⊢; exact .inr hx)) h2
/-- data, as lists -/
structure PD where
  sets : List (By × List Rl)
  zones : List (By × List Er)
  links : List (By × By)
abbrev wSet : By := [115, 101, 116]
abbrev wRule : By := [114, 117, 108, 101]
abbrev wZone : By := [122, 111, 110, 101]
abbrev wEra : By := [101, 114, 97]
abbrev wLink : By := [108, 105, 110, 107]
variable (dig : Int → By)
/-- the letter, or what stands for none -/
def letW (r : Rl) : By := if r.s.data.toList = [] then [45] else r.s.data.toList
def lnRule (r : Rl) : List By := [wRule, dig r.f, dig r.t, dig r.m, dig r.k, dig r.wk, dig r.D, dig r.a, dig r.sv, letW r]
def lnEra (x : Er) : List By := [wEra, dig x.std, dig x.set, dig x.sv, x.fm.data.toList, dig x.un]
def lnSet (s : By × List Rl) : List (List By) := [wSet, s.1] :: s.2.map (lnRule dig)
def lnZone (z : By × List Er) : List (List By) := [wZone, z.1] :: z.2.map (lnEra dig)
def lnLink (l : By × By) : List By := [wLink, l.1, l.2]
/-- all lines, as words -/
def lnAll (d : PD) : List (List By) := d.sets.flatMap (lnSet dig) ++ (d.zones.flatMap (lnZone dig) ++ d.links.map lnLink)
/-- data as text -/
def showP (d : PD) : By := linesB ((lnAll dig d).map joinW)
variable (num : By → Int)
def wd (ws : List By) (i : Nat) : By := ws.getD i []
def ruleOf (ws : List By) : Rl := ⟨num (wd ws 1), num (wd ws 2), num (wd ws 3), num (wd ws 4), num (wd ws 5), num (wd ws 6), num (wd ws 7), num (wd ws 8), ⟨(if wd ws 9 = [45] then [] else wd ws 9).toArray⟩⟩
def eraOf (ws : List By) : Er := ⟨num (wd ws 1), num (wd ws 2), num (wd ws 3), ⟨(wd ws 4).toArray⟩, num (wd ws 5)⟩
/-- one more at the last one's end -/
def onLast {α : Type} (x : α) : List (By × List α) → List (By × List α)
  | [] => []
  | [s] => [(s.1, s.2 ++ [x])]
  | s :: t :: l => s :: onLast x (t :: l)
/-- a line is taken -/
def takeW (d : PD) (ws : List By) : PD :=
  if wd ws 0 = wSet then { d with sets := d.sets ++ [(wd ws 1, [])] }
  else if wd ws 0 = wRule then { d with sets := onLast (ruleOf num ws) d.sets }
  else if wd ws 0 = wZone then { d with zones := d.zones ++ [(wd ws 1, [])] }
  else if wd ws 0 = wEra then { d with zones := onLast (eraOf num ws) d.zones }
  else if wd ws 0 = wLink then { d with links := d.links ++ [(wd ws 1, wd ws 2)] }
  else d
def pd0 : PD := ⟨[], [], []⟩
def takeL (d : PD) (ls : List (List By)) : PD := ls.foldl (takeW num) d
/-- what a text may say -/
def guessP (s : By) : PD := takeL num pd0 ((cutB 10 s).map (cutB 32))
theorem onLast_app {α : Type} (x : α) : ∀ (l : List (By × List α)) (n : By) (r : List α), onLast x (l ++ [(n, r)]) = l ++ [(n, r ++ [x])]
  | [], n, r => rfl
  | [s], n, r => rfl
  | s :: t :: l, n, r => by
    show s :: onLast x (t :: l ++ [(n, r)]) = _
    rw [onLast_app x (t :: l) n r]
    rfl
theorem takeL_app (d : PD) (a b : List (List By)) : takeL num d (a ++ b) = takeL num (takeL num d a) b := List.foldl_append
variable {dig num}
/-- a rule, an era that is read as it was -/
def okRule (dig : Int → By) (num : By → Int) (r : Rl) : Prop := num (dig r.f) = r.f ∧ num (dig r.t) = r.t ∧ num (dig r.m) = r.m ∧ num (dig r.k) = r.k ∧ num (dig r.wk) = r.wk ∧ num (dig r.D) = r.D ∧ num (dig r.a) = r.a ∧ num (dig r.sv) = r.sv ∧ r.s.data.toList ≠ [45]
def okEra (dig : Int → By) (num : By → Int) (x : Er) : Prop := num (dig x.std) = x.std ∧ num (dig x.set) = x.set ∧ num (dig x.sv) = x.sv ∧ num (dig x.un) = x.un
theorem rule_back {r : Rl} (h : okRule dig num r) : ruleOf num (lnRule dig r) = r := by
  obtain ⟨h1, h2, h3, h4, h5, h6, h7, h8, h9⟩ := h
  unfold ruleOf lnRule wd
  simp only [List.getD_cons_zero, List.getD_cons_succ, h1, h2, h3, h4, h5, h6, h7, h8]
  cases r with
  | mk a b c d e f g i s =>
    congr 1
    simp only at h9
    unfold letW
    simp only
    by_cases he : s.data.toList = []
    · rw [if_pos he, if_pos rfl]
      cases s with
      | mk x =>
        simp only at he
        congr 1
        rw [← Array.toList_inj, he]
    · rw [if_neg he, if_neg h9]
theorem era_back {x : Er} (h : okEra dig num x) : eraOf num (lnEra dig x) = x := by
  obtain ⟨h1, h2, h3, h4⟩ := h
  unfold eraOf lnEra wd
  simp only [List.getD_cons_zero, List.getD_cons_succ, h1, h2, h3, h4]
theorem take_rules (d : PD) (l : List (By × List Rl)) (n : By) : ∀ (rs r0 : List Rl), (∀ r ∈ rs, okRule dig num r) → takeL num { d with sets := l ++ [(n, r0)] } (rs.map (lnRule dig)) = { d with sets := l ++ [(n, r0 ++ rs)] }
  | [], r0, _ => by simp [takeL]
  | r :: rs, r0, h => by
    have e : takeW num { d with sets := l ++ [(n, r0)] } (lnRule dig r) = { d with sets := l ++ [(n, r0 ++ [r])] } := by
      unfold takeW
      have h0 : wd (lnRule dig r) 0 = wRule := rfl
      rw [h0, if_neg (by decide), if_pos rfl, rule_back (h r (by simp))]
      simp only [onLast_app]
    show takeL num (takeW num { d with sets := l ++ [(n, r0)] } (lnRule dig r)) (rs.map (lnRule dig)) = _
    rw [e, take_rules d l n rs (r0 ++ [r]) (fun x hx => h x (by simp [hx]))]
    simp
theorem take_eras (d : PD) (l : List (By × List Er)) (n : By) : ∀ (rs r0 : List Er), (∀ r ∈ rs, okEra dig num r) → takeL num { d with zones := l ++ [(n, r0)] } (rs.map (lnEra dig)) = { d with zones := l ++ [(n, r0 ++ rs)] }
  | [], r0, _ => by simp [takeL]
  | r :: rs, r0, h => by
    have e : takeW num { d with zones := l ++ [(n, r0)] } (lnEra dig r) = { d with zones := l ++ [(n, r0 ++ [r])] } := by
      unfold takeW
      have h0 : wd (lnEra dig r) 0 = wEra := rfl
      rw [h0, if_neg (by decide), if_neg (by decide), if_neg (by decide), if_pos rfl, era_back (h r (by simp))]
      simp only [onLast_app]
    show takeL num (takeW num { d with zones := l ++ [(n, r0)] } (lnEra dig r)) (rs.map (lnEra dig)) = _
    rw [e, take_eras d l n rs (r0 ++ [r]) (fun x hx => h x (by simp [hx]))]
    simp
theorem take_sets (d : PD) : ∀ (ss l : List (By × List Rl)), (∀ s ∈ ss, ∀ r ∈ s.2, okRule dig num r) → takeL num { d with sets := l } (ss.flatMap (lnSet dig)) = { d with sets := l ++ ss }
  | [], l, _ => by simp [takeL]
  | s :: ss, l, h => by
    rw [List.flatMap_cons, takeL_app]
    have e : takeL num { d with sets := l } (lnSet dig s) = { d with sets := l ++ [s] } := by
      have e1 : takeW num { d with sets := l } [wSet, s.1] = { d with sets := l ++ [(s.1, [])] } := by
        unfold takeW
        have h0 : wd [wSet, s.1] 0 = wSet := rfl
        rw [h0, if_pos rfl]
        rfl
      show takeL num (takeW num { d with sets := l } [wSet, s.1]) (s.2.map (lnRule dig)) = _
      rw [e1, take_rules d l s.1 s.2 [] (h s (by simp))]
      rfl
    rw [e, take_sets d ss (l ++ [s]) (fun x hx => h x (by simp [hx]))]
    simp
theorem take_zones (d : PD) : ∀ (ss l : List (By × List Er)), (∀ s ∈ ss, ∀ r ∈ s.2, okEra dig num r) → takeL num { d with zones := l } (ss.flatMap (lnZone dig)) = { d with zones := l ++ ss }
  | [], l, _ => by simp [takeL]
  | s :: ss, l, h => by
    rw [List.flatMap_cons, takeL_app]
    have e : takeL num { d with zones := l } (lnZone dig s) = { d with zones := l ++ [s] } := by
      have e1 : takeW num { d with zones := l } [wZone, s.1] = { d with zones := l ++ [(s.1, [])] } := by
        unfold takeW
        have h0 : wd [wZone, s.1] 0 = wZone := rfl
        rw [h0, if_neg (by decide), if_neg (by decide), if_pos rfl]
        rfl
      show takeL num (takeW num { d with zones := l } [wZone, s.1]) (s.2.map (lnEra dig)) = _
      rw [e1, take_eras d l s.1 s.2 [] (h s (by simp))]
      rfl
    rw [e, take_zones d ss (l ++ [s]) (fun x hx => h x (by simp [hx]))]
    simp
theorem take_links (d : PD) : ∀ (ls l : List (By × By)), takeL num { d with links := l } (ls.map lnLink) = { d with links := l ++ ls }
  | [], l => by simp [takeL]
  | x :: ls, l => by
    have e : takeW num { d with links := l } (lnLink x) = { d with links := l ++ [x] } := by
      unfold takeW
      have h0 : wd (lnLink x) 0 = wLink := rfl
      rw [h0, if_neg (by decide), if_neg (by decide), if_neg (by decide), if_neg (by decide), if_pos rfl]
      rfl
    show takeL num (takeW num { d with links := l } (lnLink x)) (ls.map lnLink) = _
    rw [e, take_links d ls (l ++ [x])]
    simp
structure okPD (dig : Int → By) (num : By → Int) (d : PD) : Prop where
  rules : ∀ s ∈ d.sets, ∀ r ∈ s.2, okRule dig num r
  eras : ∀ z ∈ d.zones, ∀ x ∈ z.2, okEra dig num x
theorem take_all {d : PD} (h : okPD dig num d) : takeL num pd0 (lnAll dig d) = d := by
  unfold lnAll
  rw [takeL_app, takeL_app]
  have e1 := take_sets (dig := dig) (num := num) pd0 d.sets [] h.rules
  have e2 := take_zones (dig := dig) (num := num) ⟨d.sets, [], []⟩ d.zones [] h.eras
  have e3 := take_links (num := num) ⟨d.sets, d.zones, []⟩ d.links []
  simp only [List.nil_append] at e1 e2 e3
  show takeL num (takeL num (takeL num { pd0 with sets := [] } _) _) _ = d
  rw [e1]
  show takeL num (takeL num { (⟨d.sets, [], []⟩ : PD) with zones := [] } _) _ = d
  rw [e2]
  exact e3
/-- no word has a blank or a line feed -/
def clean (ws : List By) : Prop := ws ≠ [] ∧ ∀ w ∈ ws, (32 : UInt8) ∉ w ∧ (10 : UInt8) ∉ w
theorem cut_show {d : PD} (h : ∀ ws ∈ lnAll dig d, clean ws) : (cutB 10 (showP dig d)).map (cutB 32) = lnAll dig d ++ [[[]]] := by
  unfold showP
  rw [cut_lines]
  · rw [List.map_append, List.map_map]
    congr 1
    refine (List.map_congr_left fun ws hw => ?_).trans (List.map_id _)
    exact cut_join (h ws hw).1 (fun w hx => ((h ws hw).2 w hx).1)
  · intro l hl
    obtain ⟨ws, hw, rfl⟩ := List.mem_map.1 hl
    exact join_mem (by decide) (fun w hx => ((h ws hw).2 w hx).2)
/-- what is shown is read as it was -/
theorem guess_show {d : PD} (h : okPD dig num d) (hc : ∀ ws ∈ lnAll dig d, clean ws) : guessP num (showP dig d) = d := by
  unfold guessP
  rw [cut_show hc, takeL_app, take_all h]
  rfl
end Go.Proofs.YtbpdbggojgijiaaGreatDoor.Src

/- The writer: a strings.Builder that lies within a struct of its own. -/
namespace Go.Proofs.YtbpdbggojgijiaaGreatDoor.Src
open Go Go.RowKit
set_option linter.unusedVariables false

/-- the writer holds l -/
def WrI (B b : Nat) (bs : List UInt8) (w : World) : Prop := Lib.IsBuilder 44 5 B b (Lib.byteCells bs) w
/-- all but writers and bytes is as it was -/
def KW (w w' : World) : Prop := ∀ (b : Nat) (cs : Array Value) (ty : TypeId) (fr : Nat × Nat), w.heap[b]? = some (.cells cs ty fr) → ty ≠ 44 → ty ≠ 5 → w'.heap[b]? = some (.cells cs ty fr)
theorem KW.trans {a b c : World} (h : KW a b) (k : KW b c) : KW a c := fun x cs ty fr hx h1 h2 => k x cs ty fr (h x cs ty fr hx h1 h2) h1 h2
theorem KW.refl (a : World) : KW a a := fun x cs ty fr hx h1 h2 => hx
theorem kw_on {w w' : World} (h : Below w.heap.size w w') : KW w w' := fun b cs ty fr hb _ _ => (h.block b (Array.getElem?_eq_some_iff.1 hb).1).trans hb
theorem kw_set {w : World} {b : Nat} {cs : Array Value} {fr : Nat × Nat} (h : w.heap[b]? = some (.cells cs 44 fr)) (o : Nat) (u : Value) : KW w (w.setCell ⟨b, o, none⟩ u) := fun x cs' ty fr' hx h1 h2 => by
  have hne : x ≠ b := fun e => by
    subst e
    rw [h] at hx
    simp at hx
    exact h1 hx.2.1.symm
  refine (?_ : _ = w.heap[x]?).trans hx
  exact heap_setCell_other w ⟨b, o, none⟩ x u hne
theorem kw_grown {w w' : World} {v : Value} {base n : Nat} {xs : List Value} (h : w.ownsRow base 5 1 v n xs) (hg : w.grownBy w' v.ownBlock) : KW w w' := fun b cs ty fr hb h1 h2 => by
  refine (hg.block b (Array.getElem?_eq_some_iff.1 hb).1 fun e => ?_).trans hb
  rcases h.2 with ⟨rfl, h0⟩ | ⟨g, cap, cur, rfl, _, hg2, _⟩
  · cases e
  · obtain rfl : b = g := by simpa [Value.ownBlock] using e
    rw [hb] at hg2
    simp at hg2
    exact h2 hg2.2.1
set_option maxHeartbeats 1000000 in
set_option maxRecDepth 100000 in
theorem wrUsed_c (b : Nat) (w : World) (h0 : w.cell? ⟨b, 0, none⟩ = some (.pointer (some ⟨b, 0, none⟩))) :
    Calls Tryz.prog 65 #[.pointer (some ⟨b, 0, none⟩)] w fun e w' => e = .returned (.tuple #[]) ∧ w' = w := by
  obtain ⟨j, hj⟩ := Option.isSome_iff_exists.1 (by kernel_rfl : (Tryz.prog.info? 42).isSome = true)
  go_enter Tryz.func65, Tryz.ntmps65
  go_wp2
  rw [Lib.run_neq_ptr_same w _ Tryz.underlying39 hj]
  go_wp2
  go_end0
  exact ⟨rfl, rfl⟩
set_option maxHeartbeats 1000000 in
set_option maxRecDepth 100000 in
theorem wrFresh_c (b : Nat) (w : World) (h0 : w.cell? ⟨b, 0, none⟩ = some (.pointer none)) (hsh : w.shape? b = some (44, 2)) (hfz : w.frozen? ⟨b, 0, none⟩ = false) :
    Calls Tryz.prog 65 #[.pointer (some ⟨b, 0, none⟩)] w fun e w' => e = .returned (.tuple #[]) ∧ w' = w.setCell ⟨b, 0, none⟩ (.pointer (some ⟨b, 0, none⟩)) := by
  obtain ⟨j, hj, hjs⟩ := Option.map_eq_some_iff.1 (by kernel_rfl : (Tryz.prog.info? 42).map (·.size) = some 2)
  go_enter Tryz.func65, Tryz.ntmps65
  go_wp2
  rw [show (convert 39 127 (.pointer (some ⟨b, 0, none⟩))).run Tryz.prog w = .ok (.pointer (some ⟨b, 0, none⟩)) w by simp [convert, run_underlying Tryz.underlying39, run_underlying Tryz.underlying127, Conv.unsafePointer, Conv.seenAt, viewAt, cellsIn, hsh, sizeOf, typeInfo, hj, hjs]]
  simp only [Result.andThen]
  rw [Oper.upon_value]
  go_wp2
  rw [run_callFunc_extern Tryz.func83 (by kernel_rfl) (by kernel_rfl) (by kernel_rfl) (e := Extern.AbiNoEscape.same) (by kernel_rfl)]
  rw [Lib.run_noEscape]
  simp only [Result.andThen]
  rw [Oper.upon_value]
  go_wp2
  have hls : liesAt Tryz.prog Tryz.prog.depth 44 (2 / Tryz.prog.cellsOf 44) 0 42 1 = true := by kernel_rfl
  rw [show (convert 127 39 (.pointer (some ⟨b, 0, none⟩))).run Tryz.prog w = .ok (.pointer (some ⟨b, 0, none⟩)) w by simp [convert, run_underlying Tryz.underlying39, run_underlying Tryz.underlying127, Conv.unsafePointer, Conv.seenAt, viewAt, hsh, variablesAt, hls, sizeOf, typeInfo, hj]]
  simp only [Result.andThen]
  rw [Oper.upon_value]
  go_wp2
  go_end0
  exact ⟨rfl, rfl⟩
/-- ahead of each write: the writer is used, its bytes are as they were -/
theorem wrCheck_c (B b : Nat) (bs : List UInt8) (w : World) (h : WrI B b bs w) :
    Calls Tryz.prog 65 #[.pointer (some ⟨b, 0, none⟩)] w fun e w' => e = .returned (.tuple #[]) ∧ Lib.BuilderAt 44 5 B b (.pointer (some ⟨b, 0, none⟩)) (Lib.byteCells bs) w' ∧ Below B w w' ∧ KW w w' := by
  rcases h with h | h
  · refine (wrFresh_c b w h.cell0 h.shape h.frozen0).mono ?_
    rintro e w' ⟨rfl, rfl⟩
    obtain ⟨v, hv, _⟩ := h.2
    exact ⟨rfl, h.used _, (Below.refl B w).setCell (p := ⟨b, 0, none⟩) h.1 _, kw_set hv _ _⟩
  · refine (wrUsed_c b w h.cell0).mono ?_
    rintro e w' ⟨rfl, rfl⟩
    exact ⟨rfl, h, Below.refl B _, KW.refl _⟩
set_option maxHeartbeats 2000000 in
set_option maxRecDepth 100000 in
/-- a text is written behind what there is -/
theorem wrWrite_c (B b : Nat) (bs : List UInt8) (s : ByteArray) (w : World) (h : WrI B b bs w) (hlen : bs.length + s.size ≤ 140737488355328) (hBw : B ≤ w.heap.size) :
    Calls Tryz.prog 35 #[.pointer (some ⟨b, 0, none⟩), .string s] w fun e w' => e = .returned (.tuple #[.int .i64 s.size, .nilIface]) ∧ WrI B b (bs ++ s.data.toList) w' ∧ Below B w w' ∧ KW w w' := by
  obtain ⟨i0, hi, hz⟩ := Option.map_eq_some_iff.1 (by kernel_rfl : (Tryz.prog.info? 5).map (fun i => (i.zero, i.size, i.bytes)) = some (some (.int .u8 0), 1, 1))
  have hz0 : i0.zero = some (.int .u8 0) := congrArg (·.1) hz
  have hz1 : i0.size = 1 := congrArg (·.2.1) hz
  have hz2 : i0.bytes = 1 := congrArg (·.2.2) hz
  clear hz
  have hC := wrCheck_c B b bs w h
  go_enter Tryz.func35, Tryz.ntmps35
  go_wp2_with (go_at_call 65; refine hC.mono ?_)
  rintro e w1 ⟨rfl, h1, hb1, hk1⟩
  obtain ⟨hB, v, hbk, hown, hne⟩ := h1
  have c0 : w1.cell? ⟨b, 0, none⟩ = some (.pointer (some ⟨b, 0, none⟩)) := by rw [Lib.cell_of_heap hbk]; rfl
  have c1 : w1.cell? ⟨b, 1, none⟩ = some v := by rw [Lib.cell_of_heap hbk]; rfl
  rw [Lib.byteCells_length] at hown
  go_wp2_with (at_builtin; refine Lib.wpList_append_own_string _ rfl _ _ 40 9 rfl B 5 i0 Tryz.underlying40 Tryz.underlying9 hi hz0 hz1 hz2 _ _ _ rfl hown s rfl ?c3 ?c4 ?c5 ?_)
  case c3 => unfold maxLen; omega
  case c4 => omega
  case c5 => have := hb1.size; omega
  intro v' w2 hown' hgrow _
  have hlt : b < w1.heap.size := (Array.getElem?_eq_some_iff.1 hbk).1
  have hb2 : w2.heap[b]? = some (.cells #[.pointer (some ⟨b, 0, none⟩), v] 44 (0, 0)) := by
    rw [hgrow.block b hlt (fun e => hne e.symm)]
    exact hbk
  have d0 : w2.cell? ⟨b, 0, none⟩ = some (.pointer (some ⟨b, 0, none⟩)) := by rw [Lib.cell_of_heap hb2]; rfl
  have d1 : w2.cell? ⟨b, 1, none⟩ = some v := by rw [Lib.cell_of_heap hb2]; rfl
  have f1 : w2.frozen? ⟨b, 1, none⟩ = false := Lib.frozen_of_heap hb2 1
  have hs : v'.oneCell' = true := by
    rcases hown'.2 with ⟨hv, _⟩ | ⟨g, cap, cur, hv, _⟩ <;> rw [hv] <;> rfl
  obtain ⟨ao, n', cap, rfl⟩ : ∃ ao n' cap, v' = .slice ao n' cap := by
    rcases hown'.2 with ⟨hv, _⟩ | ⟨g, cap, cur, hv, _⟩
    · exact ⟨_, _, _, hv⟩
    · exact ⟨_, _, _, hv⟩
  go_wp2
  go_ret2
  refine ⟨rfl, .inr ?_, ?_, ?_⟩
  · refine Lib.BuilderAt.put (T := 44) (e := 5) hB hb2 (bs' := Lib.byteCells (bs ++ s.data.toList)) ?_ (by decide)
    rw [Lib.byteCells_append, ← Lib.strCells_eq, List.length_append, Lib.byteCells_length, Lib.strCells_length]
    exact hown'
  · exact (hb1.grown hgrow (by have := hb1.size; omega) (fun k hk => (hown.lt k hk).1)).setCell (p := ⟨b, 1, none⟩) hB _
  · exact (hk1.trans (kw_grown hown hgrow)).trans (kw_set hb2 _ _)
set_option maxHeartbeats 2000000 in
set_option maxRecDepth 100000 in
/-- what was written -/
theorem wrText_c (B b : Nat) (l : List UInt8) (w : World) (h : WrI B b l w) (hBw : B ≤ w.heap.size) :
    Calls Tryz.prog 16 #[.pointer (some ⟨b, 0, none⟩)] w fun e w' => e = .returned (.string ⟨l.toArray⟩) ∧ Below B w w' := by
  obtain ⟨p, hB, v, hbk, hown, hne⟩ : ∃ p, Lib.BuilderAt 44 5 B b p (Lib.byteCells l) w := by
    rcases h with h | h
    · exact ⟨_, h⟩
    · exact ⟨_, h⟩
  clear h
  rw [Lib.byteCells_length] at hown
  have hlt : b < w.heap.size := (Array.getElem?_eq_some_iff.1 hbk).1
  by_cases h0 : l = []
  · subst h0
    rcases hown.2 with ⟨rfl, _⟩ | ⟨g, cap, cur, rfl, hbg, hg, _, _, _, _⟩
    · have c1 : w.drew.cell? ⟨b, 1, none⟩ = some (.slice none 0 0) := by
        have : w.drew.heap[b]? = some (.cells #[p, .slice none 0 0] 44 (0, 0)) := hbk
        rw [Lib.cell_of_heap this]; rfl
      have hSD : (Builtin.unsafeSliceData_ #[40] 86 #[.slice none 0 0]).run Tryz.prog w.drew = .ok (.pointer none) w.drew := rfl
      have hUS := fun (W : World) (q : Option Addr) => Lib.run_unsafeString_none (P := Tryz.prog) W 86 3 9 q
      go_enter Tryz.func16, Tryz.ntmps16
      go_wp2
      go_region
      all_goals (go_wp2; go_ret; exact ⟨rfl, Below.drew (Below.refl B w)⟩)
    · by_cases hc0 : cap = 0
      · subst hc0
        have hUS := fun (W : World) (q : Option Addr) => Lib.run_unsafeString_none (P := Tryz.prog) W 86 3 9 q
        have c1 : w.drew.cell? ⟨b, 1, none⟩ = some (.slice (some ⟨g, 0, none⟩) 0 0) := by
          have : w.drew.heap[b]? = some (.cells #[p, .slice (some ⟨g, 0, none⟩) 0 0] 44 (0, 0)) := hbk
          rw [Lib.cell_of_heap this]; rfl
        have hSD : (Builtin.unsafeSliceData_ #[40] 86 #[.slice (some ⟨g, 0, none⟩) 0 0]).run Tryz.prog w.drew = .ok (.pointer (some ⟨w.drew.heap.size, 0, none⟩)) (w.drew.alloc (.view ⟨g, 0, none⟩ 5)) :=
          Lib.run_unsafeSliceData_zero w.drew _ _ 5 Tryz.underlying86 ⟨g, 0, none⟩ 0 (5, cur.size) (by have hg' : w.drew.heap[g]? = some (.cells cur 5 (0, 0)) := hg; simp [World.shape?, hg'])
        have c2 : (w.drew.alloc (.view ⟨g, 0, none⟩ 5)).cell? ⟨b, 1, none⟩ = some (.slice (some ⟨g, 0, none⟩) 0 0) := by
          have : (w.drew.alloc (.view ⟨g, 0, none⟩ 5)).heap[b]? = _ := (Lib.alloc_old w.drew _ b hlt).trans hbk
          rw [Lib.cell_of_heap this]; rfl
        have c3 : (w.alloc (.view ⟨g, 0, none⟩ 5)).drew.cell? ⟨b, 1, none⟩ = some (.slice (some ⟨g, 0, none⟩) 0 0) := c2
        have c0 : w.cell? ⟨b, 1, none⟩ = some (.slice (some ⟨g, 0, none⟩) 0 0) := c1
        go_enter Tryz.func16, Tryz.ntmps16
        go_wp2
        go_region
        all_goals (go_wp2; go_ret; exact ⟨rfl, (Below.drew (Below.refl B w)).alloc hBw _⟩)
      · have c1 : w.drew.cell? ⟨b, 1, none⟩ = some (.slice (some ⟨g, 0, none⟩) 0 cap) := by
          have : w.drew.heap[b]? = some (.cells #[p, .slice (some ⟨g, 0, none⟩) 0 cap] 44 (0, 0)) := hbk
          rw [Lib.cell_of_heap this]; rfl
        have hSD : (Builtin.unsafeSliceData_ #[40] 86 #[.slice (some ⟨g, 0, none⟩) 0 cap]).run Tryz.prog w.drew = .ok (.pointer (some ⟨g, 0, none⟩)) w.drew :=
          Lib.run_unsafeSliceData_row _ _ _ _ _ _ hc0
        have hUS := fun (W : World) (q : Option Addr) => Lib.run_unsafeString_none (P := Tryz.prog) W 86 3 9 q
        clear hc0
        go_enter Tryz.func16, Tryz.ntmps16
        go_wp2
        go_region
        all_goals (go_wp2; go_ret; exact ⟨rfl, Below.drew (Below.refl B w)⟩)
  · have hl0 : l.length ≠ 0 := by simpa using h0
    obtain ⟨g, cap, cur, rfl, hbg, hg, hnc, hcm, hcs, htake⟩ : ∃ g cap cur, v = .slice (some ⟨g, 0, none⟩) l.length cap ∧ B ≤ g ∧ w.heap[g]? = some (.cells cur 5 (0, 0)) ∧ l.length ≤ cap ∧ cap ≤ maxLen ∧ cur.size = cap * 1 ∧ cur.toList.take (l.length * 1) = Lib.byteCells l := by
      rcases hown.2 with ⟨_, hz⟩ | ⟨g, cap, cur, hv, r⟩
      · exact absurd hz hl0
      · exact ⟨g, cap, cur, hv, r⟩
    have c1 : w.drew.cell? ⟨b, 1, none⟩ = some (.slice (some ⟨g, 0, none⟩) l.length cap) := by
      have : w.drew.heap[b]? = some (.cells #[p, .slice (some ⟨g, 0, none⟩) l.length cap] 44 (0, 0)) := hbk
      rw [Lib.cell_of_heap this]; rfl
    have hSD : (Builtin.unsafeSliceData_ #[40] 86 #[.slice (some ⟨g, 0, none⟩) l.length cap]).run Tryz.prog w.drew = .ok (.pointer (some ⟨g, 0, none⟩)) w.drew :=
      Lib.run_unsafeSliceData_row _ _ _ _ _ _ (by omega)
    have hUS : (Builtin.unsafeString_ #[86, 3] 9 #[.pointer (some ⟨g, 0, none⟩), .int .i64 l.length]).run Tryz.prog w.drew = .ok (.string ⟨l.toArray⟩) (w.drew.freeze ⟨g, 0, none⟩ l.length) := by
      refine Lib.run_unsafeString_row w.drew 86 3 9 5 Tryz.underlying86 (by kernel_rfl) g cur.size (by have hg' : w.drew.heap[g]? = some (.cells cur 5 (0, 0)) := hg; simp [World.shape?, hg']) l h0 (by omega) (by unfold maxLen at hcm; omega) ?_
      intro j x hx
      exact hown.cells (g := g) rfl j (.int .u8 x.toNat) (by simp [Lib.byteCells, hx])
    go_enter Tryz.func16, Tryz.ntmps16
    go_wp2
    go_region
    all_goals (go_wp2; go_ret; exact ⟨rfl, Lib.below_freeze (Below.drew (Below.refl B w)) (p := ⟨g, 0, none⟩) hbg _⟩)
end Go.Proofs.YtbpdbggojgijiaaGreatDoor.Src

/- A line is written: words that are texts or numbers. -/
namespace Go.Proofs.YtbpdbggojgijiaaGreatDoor.Src
open Go Go.RowKit
set_option linter.unusedVariables false

/-- a word: a text or a number -/
abbrev Wo : Type := Sum ByteArray Int
abbrev Wo.t (s : ByteArray) : Wo := Sum.inl s
abbrev Wo.n (i : Int) : Wo := Sum.inr i
def Wo.v : Wo → Value
  | .inl s => .iface 9 (.string s)
  | .inr i => .iface 3 (.int .i64 i)
def Wo.b : Wo → By
  | .inl s => s.data.toList
  | .inr i => Lib.itoa i
def Wo.ok : Wo → Prop
  | .inl s => True
  | .inr i => -9223372036854775808 ≤ i ∧ i ≤ 9223372036854775807
theorem join_snoc (x : By) : ∀ l : List By, joinW (l ++ [x]) = joinW l ++ ((if l = [] then [] else [32]) ++ x)
  | [] => by simp [joinW]
  | [a] => by simp [joinW]
  | a :: b :: l => by
    show a ++ 32 :: joinW (b :: l ++ [x]) = _
    rw [join_snoc x (b :: l)]
    simp [joinW]
theorem join_take {l : List By} {k : Nat} {x : By} (h : l[k]? = some x) : joinW (l.take (k + 1)) = joinW (l.take k) ++ ((if k = 0 then [] else [32]) ++ x) := by
  rw [List.take_add_one, h]
  show joinW (l.take k ++ [x]) = _
  rw [join_snoc]
  have hk := (List.getElem?_eq_some_iff.1 h).1
  by_cases e : k = 0
  · subst e; simp
  · rw [if_neg e, if_neg]
    intro e2
    have := congrArg List.length e2
    rw [List.length_take, Nat.min_eq_left (Nat.le_of_lt hk)] at this
    exact e this
theorem join_le (a : List By) : ∀ b : List By, (joinW a).length ≤ (joinW (a ++ b)).length := by
  intro b
  induction b generalizing a with
  | nil => simp
  | cons x b ih =>
    have := ih (a ++ [x])
    rw [join_snoc] at this
    simp at this ⊢
    omega
theorem join_take_le (l : List By) (k : Nat) : (joinW (l.take k)).length ≤ (joinW l).length := by
  have := join_le (l.take k) (l.drop k)
  rwa [List.take_append_drop] at this
/-- the table that numbers are told with -/
theorem hideS {p : Prop} (h : p) : Hid p := h
abbrev TabW (w : World) : Prop := Lib.TabIs Tryz.prog w "internal/strconv.uint64pow10" .u64 Lib.pow10Tab

theorem as_tt (v : Value) : ∀ w : World, (Instr.typeAssert (.iface 9 v) 20 9 true).run Tryz.prog w = .ok (.tuple #[v, .bool true]) w := fun w => by kernel_rfl
theorem as_nt (v : Value) : ∀ w : World, (Instr.typeAssert (.iface 3 v) 20 9 true).run Tryz.prog w = .ok (.tuple #[.string ⟨#[]⟩, .bool false]) w := fun w => by kernel_rfl
theorem as_nn (v : Value) : ∀ w : World, (Instr.typeAssert (.iface 3 v) 20 3 true).run Tryz.prog w = .ok (.tuple #[v, .bool true]) w := fun w => by kernel_rfl
theorem itoa_c (i : Int) (w : World) (h : (Wo.n i).ok) (hT : TabW w) : Calls Tryz.prog 36 #[.int .i64 i] w fun e w' => e = .returned (.string ⟨(Lib.itoa i).toArray⟩) ∧ Below w.heap.size w w' := by
  refine (Tryz.strconv_Itoa i h.1 h.2 w hT).mono ?_
  rintro e w' ⟨rfl, k, os, rfl⟩
  refine ⟨rfl, rfl, rfl, rfl, ?_, ?_⟩
  · simp [Go.Sort.grow]
  · intro b hb
    exact Go.Sort.heap_grow_old (w.drewN k) os hb
/-- what is new behind the writer is nothing to it -/
theorem wr_on {B b : Nat} {bs : By} {w w' : World} (h : WrI B b bs w) (hb : Below w.heap.size w w') : WrI B b bs w' := by
  have key : ∀ p, Lib.BuilderAt 44 5 B b p (Lib.byteCells bs) w → Lib.BuilderAt 44 5 B b p (Lib.byteCells bs) w' := fun p h => by
    obtain ⟨hB, v, hv, ho, hn⟩ := h
    refine ⟨hB, v, (hb.block _ (Array.getElem?_eq_some_iff.1 hv).1).trans hv, ⟨ho.1, ho.2.imp id fun ⟨g, cap, cur, h1, h2, h3, h4⟩ => ⟨g, cap, cur, h1, h2, (hb.block _ (Array.getElem?_eq_some_iff.1 h3).1).trans h3, h4⟩⟩, hn⟩
  exact h.imp (key _) (key _)
set_option maxHeartbeats 4000000 in
set_option maxRecDepth 100000 in
theorem line_c (B b : Nat) (bs : By) (ws : List Wo) (g off c : Nat) (cs : Array Value) (ty : TypeId) (fr : Nat × Nat) (w : World) (h : WrI B b bs w) (hg : w.heap[g]? = some (.cells cs ty fr)) (h1 : ty ≠ 44) (h2 : ty ≠ 5)
    (hcs : ∀ (j : Nat) (x : Wo), ws[j]? = some x → cs[off + j]? = some x.v) (hok : ∀ x ∈ ws, x.ok) (hn : ws.length ≤ 100) (hlen : bs.length + (joinW (ws.map Wo.b)).length + 1 ≤ 140737488355328) (hBw : B ≤ w.heap.size) (hT : ∀ v : World, Below B w v → TabW v) :
    Calls Tryz.prog 15 #[.pointer (some ⟨b, 0, none⟩), .slice (some ⟨g, off, none⟩) ws.length c] w fun e w' => e = .returned (.tuple #[]) ∧ WrI B b (bs ++ (joinW (ws.map Wo.b) ++ [10])) w' ∧ Below B w w' ∧ KW w w' := by
  have H := hideS h
  have HG : Hid (∀ (v : World) (j : Nat) (x : Wo), KW w v → ws[j]? = some x → v.cell? ⟨g, off + j, none⟩ = some x.v) := fun v j x hv hx => by
    rw [Lib.cell_of_heap (hv _ _ _ _ hg h1 h2)]
    exact hcs j x hx
  have HO := hideS hok
  have HT := hideS hT
  have HL : Hid (∀ k, (joinW ((ws.map Wo.b).take k)).length ≤ (joinW (ws.map Wo.b)).length) := join_take_le _
  obtain ⟨J, hJ⟩ : ∃ J : Nat → By, ∀ k, J k = joinW ((ws.map Wo.b).take k) := ⟨_, fun _ => rfl⟩
  have HJ : Hid (∀ (k : Nat) (x : Wo), ws[k]? = some x → J (k + 1) = J k ++ ((if k = 0 then [] else [32]) ++ x.b)) := fun k x hx => by
    rw [hJ, hJ]
    exact join_take (by simp [hx])
  have HL : Hid (∀ k, bs.length + (J k).length + 1 ≤ 140737488355328) := fun k => by
    have := join_take_le (ws.map Wo.b) k
    rw [hJ]
    omega
  have HE : Hid (J ws.length = joinW (ws.map Wo.b)) := by
    show _ = _
    rw [hJ, List.take_of_length_le (by simp)]
  have H0 : Hid (WrI B b (bs ++ J 0) w) := by
    have : J 0 = [] := by rw [hJ]; rfl
    show WrI B b (bs ++ J 0) w
    rw [this, List.append_nil]
    exact h
  have HWr : Hid (∀ (bs' : By) (s : ByteArray) (v : World), Hid (WrI B b bs' v) → Hid (Below B w v) → bs'.length + s.size ≤ 140737488355328 → Calls Tryz.prog 35 #[.pointer (some ⟨b, 0, none⟩), .string s] v fun e w' => e = .returned (.tuple #[.int .i64 s.size, .nilIface]) ∧ WrI B b (bs' ++ s.data.toList) w' ∧ Below B v w' ∧ KW v w') := fun bs' s v hv hb hl => wrWrite_c B b bs' s v hv.out hl (by have := hb.out.size; omega)
  rw [← HE.out]
  clear H hg hcs hok hT hlen h hJ
  go_enter Tryz.func15, Tryz.ntmps15
  go_wp2_with fail
  go_loopw [10] (fun x10 wr => ∃ k : Nat, k ≤ ws.length ∧ x10 = .int .i64 k ∧ Hid (WrI B b (bs ++ J k) wr) ∧ Hid (Below B w wr) ∧ Hid (KW w wr)) (fun x10 _ => ws.length - (intOf x10).toNat)
  case atStart => exact ⟨0, Nat.zero_le _, rfl, H0, Below.refl _ _, KW.refl _⟩
  case round =>
    obtain ⟨k, hk, rfl, HI, HB, HK⟩ := hrel
    by_cases hlt : k < ws.length
    · obtain ⟨x, hx⟩ : ∃ x, ws[k]? = some x := ⟨_, List.getElem?_eq_getElem hlt⟩
      have c0 := HG.out wr k x HK.out hx
      have hl := HL.out (k + 1)
      rw [HJ.out k x hx] at hl
      have HR : Hid (J (k + 1) = J k ++ ((if k = 0 then [] else [32]) ++ x.b)) := HJ.out k x hx
      have hxo := HO.out x (List.mem_of_getElem? hx)
      clear hx
      cases x with
      | inl s =>
        have c1 : wr.cell? ⟨g, off + k, none⟩ = some (.iface 9 (.string s)) := c0
        have hl2 : bs.length + ((J k).length + ((if k = 0 then ([] : By) else [32]).length + s.size)) + 1 ≤ 140737488355328 := by
          have := hl
          simp only [List.length_append] at this
          have e : (Wo.b (.t s)).length = s.size := (Lib.size_eq s).symm
          rw [e] at this
          exact this
        clear c0 hl
        have a1 := as_tt (.string s)
        by_cases h0 : k = 0
        · subst h0
          rw [if_pos rfl] at HR hl2
          rw [Nat.add_zero] at c1
          have hl3 : bs.length + (J 0).length + s.size ≤ 140737488355328 := by simp at hl2; omega
          go_wp2_with (go_at_call 35; refine (HWr.out _ _ _ HI HB (by rw [List.length_append]; exact hl3)).mono ?_; rintro e w1 ⟨rfl, i1, b1, k1⟩)
          have I1 : Hid (WrI B b (bs ++ J 1) w1) := by
            show WrI B b (bs ++ J 1) w1
            rw [HR.out, List.nil_append, ← List.append_assoc]
            exact i1
          have B1 := hideS (HB.out.trans b1)
          have K1 := hideS (HK.out.trans k1)
          clear i1 b1 k1
          go_roundw
          case rel => exact ⟨1, by omega, by go_num, I1, B1, K1⟩
          case measure => simp [intOf]; omega
        · rw [if_neg h0] at HR hl2
          have hl3 : bs.length + (J k).length + 1 + s.size ≤ 140737488355328 := by simp at hl2; omega
          have hp : 0 < k := by omega
          clear h0
          go_wp2_with (go_at_call 35; first
            | (refine (HWr.out _ _ _ I1 B1 (by rw [List.length_append, List.length_append]; exact hl3)).mono ?_; rintro e w2 ⟨rfl, i2, b2, k2⟩)
            | (refine (HWr.out _ _ _ HI HB (by rw [List.length_append]; show _ + 1 ≤ _; omega)).mono ?_; rintro e w1 ⟨rfl, i1, b1, k1⟩; have I1 := hideS i1; have B1 := hideS (HB.out.trans b1); have K1 := hideS (HK.out.trans k1); clear i1 b1 k1))
          have I2 : Hid (WrI B b (bs ++ J (k + 1)) w2) := by
            show WrI B b (bs ++ J (k + 1)) w2
            rw [HR.out, ← List.append_assoc, ← List.append_assoc]
            exact i2
          have B2 := hideS (B1.out.trans b2)
          have K2 := hideS (K1.out.trans k2)
          clear i2 b2 k2
          go_roundw
          case rel => exact ⟨k + 1, by omega, by go_num, I2, B2, K2⟩
          case measure => simp [intOf]; omega
      | inr i =>
        have c1 : wr.cell? ⟨g, off + k, none⟩ = some (.iface 3 (.int .i64 i)) := c0
        have hl2 : bs.length + ((J k).length + ((if k = 0 then ([] : By) else [32]).length + (Lib.itoa i).length)) + 1 ≤ 140737488355328 := by
          have := hl
          simp only [List.length_append] at this
          exact this
        clear c0 hl
        have a1 := as_nt (.int .i64 i)
        have a2 := as_nn (.int .i64 i)
        have HI2 : Hid (∀ v : World, Below B w v → Calls Tryz.prog 36 #[.int .i64 i] v fun e w' => e = .returned (.string ⟨(Lib.itoa i).toArray⟩) ∧ Below v.heap.size v w') := fun v hv => itoa_c i v hxo (HT.out v hv)
        clear hxo
        by_cases h0 : k = 0
        · subst h0
          rw [if_pos rfl] at HR hl2
          rw [Nat.add_zero] at c1
          have hl3 : bs.length + (J 0).length + (⟨(Lib.itoa i).toArray⟩ : ByteArray).size ≤ 140737488355328 := by simp at hl2; show _ + (Lib.itoa i).toArray.size ≤ _; rw [List.size_toArray]; omega
          clear hl2
          go_wp2_with fail
          go_region_with (first
            | (go_at_call 36; refine (HI2.out _ HB.out.drew).mono ?_; rintro e w1 ⟨rfl, b1⟩; have I1 : Hid (WrI B b (bs ++ J 0) w1) := wr_on (w := wr.drew) HI.out b1; have B1 : Hid (Below B w w1) := (HB.out.drew).trans (b1.mono (Nat.le_trans hBw HB.out.size)); have K1 : Hid (KW w w1) := KW.trans (b := wr.drew) HK.out (kw_on b1); clear b1)
            | (go_at_call 35; refine (HWr.out _ _ _ I1 B1 (by rw [List.length_append]; exact hl3)).mono ?_; rintro e w2 ⟨rfl, i2, b2, k2⟩))
          have I2 : Hid (WrI B b (bs ++ J 1) w2) := by
            show WrI B b (bs ++ J 1) w2
            rw [HR.out, List.nil_append, ← List.append_assoc]
            exact i2
          have B2 := hideS (B1.out.trans b2)
          have K2 := hideS (K1.out.trans k2)
          clear i2 b2 k2
          go_wp2_with fail
          go_roundw
          case rel => exact ⟨1, by omega, by go_num, I2, B2, K2⟩
          case measure => simp [intOf]; omega
        · rw [if_neg h0] at HR hl2
          have hl3 : bs.length + (J k).length + 1 + (⟨(Lib.itoa i).toArray⟩ : ByteArray).size ≤ 140737488355328 := by simp at hl2; show _ + (Lib.itoa i).toArray.size ≤ _; rw [List.size_toArray]; omega
          have hp : 0 < k := by omega
          clear h0 hl2
          go_wp2_with (go_at_call 35; refine (HWr.out _ _ _ HI HB (by rw [List.length_append]; show _ + 1 ≤ _; omega)).mono ?_; rintro e w1 ⟨rfl, i1, b1, k1⟩; have I1 := hideS i1; have B1 := hideS (HB.out.trans b1); have K1 := hideS (HK.out.trans k1); clear i1 b1 k1)
          go_region_with (first
            | (go_at_call 36; refine (HI2.out _ B1.out.drew).mono ?_; rintro e w2 ⟨rfl, b2⟩; have I2 : Hid (WrI B b (bs ++ J k ++ [32]) w2) := wr_on (w := w1.drew) I1.out b2; have B2 : Hid (Below B w w2) := (B1.out.drew).trans (b2.mono (Nat.le_trans hBw B1.out.size)); have K2 : Hid (KW w w2) := KW.trans (b := w1.drew) K1.out (kw_on b2); clear b2)
            | (go_at_call 35; refine (HWr.out _ _ _ I2 B2 (by rw [List.length_append, List.length_append]; exact hl3)).mono ?_; rintro e w3 ⟨rfl, i3, b3, k3⟩))
          have I3 : Hid (WrI B b (bs ++ J (k + 1)) w3) := by
            show WrI B b (bs ++ J (k + 1)) w3
            rw [HR.out, ← List.append_assoc, ← List.append_assoc]
            exact i3
          have B3 := hideS (B2.out.trans b3)
          have K3 := hideS (K2.out.trans k3)
          clear i3 b3 k3
          go_wp2_with fail
          go_roundw
          case rel => exact ⟨k + 1, by omega, by go_num, I3, B3, K3⟩
          case measure => simp [intOf]; omega
    · obtain rfl : k = ws.length := by omega
      have hl3 : (bs ++ J ws.length).length + (⟨#[10]⟩ : ByteArray).size ≤ 140737488355328 := by
        rw [List.length_append]
        exact HL.out _
      go_wp2_with (go_at_call 35; refine (HWr.out _ _ _ HI HB hl3).mono ?_; rintro e w1 ⟨rfl, i1, b1, k1⟩)
      go_end0
      exact ⟨rfl, by rw [← List.append_assoc]; exact i1, HB.out.trans b1, HK.out.trans k1⟩
end Go.Proofs.YtbpdbggojgijiaaGreatDoor.Src

/- The first text that is not empty. -/
namespace Go.Proofs.YtbpdbggojgijiaaGreatDoor.Src
open Go Go.RowKit
set_option linter.unusedVariables false

set_option maxHeartbeats 4000000 in
set_option maxRecDepth 100000 in
theorem orS_c (a : ByteArray) (g c : Nat) (w : World) (h0 : w.cell? ⟨g, 0, none⟩ = some (.string a)) (h1 : w.cell? ⟨g, 1, none⟩ = some (.string ⟨#[45]⟩)) :
    Calls Tryz.prog 34 #[.slice (some ⟨g, 0, none⟩) 2 c] w fun e w' => e = .returned (.string (if a.data.toList = [] then ⟨#[45]⟩ else a)) ∧ w' = w := by
  have o1 : ((⟨#[45]⟩ : ByteArray).toList == (⟨#[]⟩ : ByteArray).toList) = false := (Lib.bytes_beq_false_iff _ _).2 (by decide)
  by_cases ha : a.data.toList = []
  · have : a = ⟨#[]⟩ := by
      cases a with
      | mk x =>
        congr 1
        rw [← Array.toList_inj, ha]
    subst this
    clear ha
    have o2 : ((⟨#[]⟩ : ByteArray).toList == (⟨#[]⟩ : ByteArray).toList) = true := beq_self_eq_true _
    go_enter Tryz.func34, Tryz.ntmps34
    go_wp2_with fail
    go_loop [8] (fun x8 => x8 = .int .i64 0 ∨ x8 = .int .i64 1) (fun x8 => 2 - (intOf x8).toNat)
    case atStart => exact .inl rfl
    case round =>
      rcases hrel with rfl | rfl
      · go_wp2_with fail
        go_round
        case rel => exact .inr (by go_num)
        case measure => simp [intOf]
      · go_wp2_with fail
        go_ret
        exact ⟨rfl, rfl⟩
  · have o2 : (a.toList == (⟨#[]⟩ : ByteArray).toList) = false := (Lib.bytes_beq_false_iff _ _).2 (fun e => ha (by rw [e]))
    have o3 : a.toList.isEmpty = false := by
      cases e : a.toList with
      | nil =>
        rw [e] at o2
        have e0 : (⟨#[]⟩ : ByteArray).toList = [] := by simp
        rw [e0] at o2
        cases o2
      | cons x l => rfl
    rw [if_neg ha]
    clear ha
    go_enter Tryz.func34, Tryz.ntmps34
    go_wp2_with fail
    go_loop [8] (fun x8 => x8 = .int .i64 0) (fun x8 => 2 - (intOf x8).toNat)
    case atStart => rfl
    case round =>
      subst hrel
      go_wp2_with fail
      go_ret
      exact ⟨rfl, rfl⟩
end Go.Proofs.YtbpdbggojgijiaaGreatDoor.Src

/- A set is written. -/
namespace Go.Proofs.YtbpdbggojgijiaaGreatDoor.Src
open Go Go.RowKit
set_option linter.unusedVariables false

set_option maxHeartbeats 1000000 in
/-- a line of words that are given in a row of their own -/
theorem line_f (B b : Nat) (bs : By) (ws : List Wo) (cs : Array Value) (n : Nat) (w : World) (h : WrI B b bs w) (hcs : cs.toList = ws.map Wo.v) (hl : n = ws.length) (hok : ∀ x ∈ ws, x.ok) (hn : ws.length ≤ 100) (hlen : bs.length + ((joinW (ws.map Wo.b)).length + 1) ≤ 140737488355328) (hBw : B ≤ w.heap.size) (hT : ∀ v : World, Below B w v → TabW v) :
    Calls Tryz.prog 15 #[.pointer (some ⟨b, 0, none⟩), .slice (some ⟨w.heap.size, 0, none⟩) n n] (w.alloc (.cells cs 20)) fun e w' => e = .returned (.tuple #[]) ∧ WrI B b (bs ++ (joinW (ws.map Wo.b) ++ [10])) w' ∧ Below B w w' ∧ KW w w' := by
  subst hl
  have hb := (Below.refl _ w).alloc (Nat.le_refl _) (.cells cs 20)
  have hB : Below B w (w.alloc (.cells cs 20)) := hb.mono hBw
  refine (line_c B b bs ws w.heap.size 0 ws.length cs 20 (0, 0) (w.alloc (.cells cs 20)) (wr_on h hb) (World.alloc_heap_new _ _) (by decide) (by decide) ?_ hok hn (by omega) (by simp; omega) (fun v hv => hT v (hB.trans hv))).mono ?_
  · intro j x hx
    rw [Nat.zero_add, ← Array.getElem?_toList, hcs]
    simp [hx]
  · rintro e w' ⟨rfl, h1, h2, h3⟩
    exact ⟨rfl, h1, hB.trans h2, (kw_on hb).trans h3⟩
theorem lines_app (a b : List By) : linesB (a ++ b) = linesB a ++ linesB b := List.flatMap_append
theorem lines_one (a : By) : linesB [a] = a ++ [10] := by simp [linesB]
theorem mono_len {J : Nat → By} (h : ∀ k, ∃ s, J (k + 1) = J k ++ s) {k n : Nat} (hk : k ≤ n) : (J k).length ≤ (J n).length := by
  induction n with
  | zero => obtain rfl : k = 0 := by omega
            exact Nat.le_refl _
  | succ n ih =>
    by_cases e : k = n + 1
    · subst e; exact Nat.le_refl _
    · obtain ⟨s, hs⟩ := h n
      have := ih (by omega)
      rw [hs, List.length_append]
      omega
/-- the words of a rule -/
def ruleWo (r : Rl) : List Wo := [.t ⟨#[114, 117, 108, 101]⟩, .n r.f, .n r.t, .n r.m, .n r.k, .n r.wk, .n r.D, .n r.a, .n r.sv, .t (if r.s.data.toList = [] then ⟨#[45]⟩ else r.s)]
theorem rule_wo (r : Rl) : (ruleWo r).map Wo.b = lnRule Lib.itoa r := by
  unfold ruleWo lnRule letW
  simp only [List.map, Wo.b]
  congr 1
  by_cases e : r.s.data.toList = []
  · rw [if_pos e, if_pos e]
  · rw [if_neg e, if_neg e]
/-- what is written of a set whose first k rules are written -/
def setJ (x : St) (k : Nat) : By := linesB (joinW [wSet, x.nm.data.toList] :: (List.range k).map fun i => joinW (lnRule Lib.itoa (x.rs i)))
theorem setJ_succ (x : St) (k : Nat) : setJ x (k + 1) = setJ x k ++ (joinW (lnRule Lib.itoa (x.rs k)) ++ [10]) := by
  unfold setJ
  rw [List.range_succ, List.map_append, ← List.cons_append, lines_app]
  simp [linesB]
/-- numbers that Go bears -/
def Rl.numOk (r : Rl) : Prop := (Wo.n r.f).ok ∧ (Wo.n r.t).ok ∧ (Wo.n r.m).ok ∧ (Wo.n r.k).ok ∧ (Wo.n r.wk).ok ∧ (Wo.n r.D).ok ∧ (Wo.n r.a).ok ∧ (Wo.n r.sv).ok
theorem rule_ok {r : Rl} (h : Rl.numOk r) : ∀ x ∈ ruleWo r, x.ok := by
  obtain ⟨h1, h2, h3, h4, h5, h6, h7, h8⟩ := h
  intro x hx
  simp only [ruleWo, List.mem_cons, List.not_mem_nil, or_false] at hx
  rcases hx with rfl | rfl | rfl | rfl | rfl | rfl | rfl | rfl | rfl | rfl <;> first | assumption | exact trivial
set_option maxHeartbeats 8000000 in
set_option maxRecDepth 100000 in
theorem set_c (B b : Nat) (bs : By) (x : St) (w : World) (h : WrI B b bs w) (hR : ∀ v : World, Below B w v → ARow v x.a x.n x.c x.rs) (hok : ∀ i, i < x.n → Rl.numOk (x.rs i)) (hn : x.n ≤ 100) (hlen : bs.length + (setJ x x.n).length ≤ 140737488355328) (hBw : B ≤ w.heap.size) (hT : ∀ v : World, Below B w v → TabW v) :
    Calls Tryz.prog 13 #[.pointer (some ⟨b, 0, none⟩), .agg #[.string x.nm, x.sl]] w fun e w' => e = .returned (.tuple #[]) ∧ WrI B b (bs ++ setJ x x.n) w' ∧ Below B w w' ∧ KW w w' := by
  have HL : Hid (∀ k, k ≤ x.n → bs.length + (setJ x k).length ≤ 140737488355328) := fun k hk => by
    have := mono_len (J := setJ x) (fun k => ⟨_, setJ_succ x k⟩) hk
    omega
  have HR := hideS hR
  have HT := hideS hT
  have HO := hideS hok
  have HLf : Hid (∀ (bs' : By) (ws : List Wo) (cs : Array Value) (n g : Nat) (v : World), g = v.heap.size → Hid (WrI B b bs' v) → Hid (Below B w v) → cs.toList = ws.map Wo.v → n = ws.length → (∀ x ∈ ws, x.ok) → ws.length ≤ 100 → bs'.length + ((joinW (ws.map Wo.b)).length + 1) ≤ 140737488355328 → Calls Tryz.prog 15 #[.pointer (some ⟨b, 0, none⟩), .slice (some ⟨g, 0, none⟩) n n] (v.alloc (.cells cs 20)) fun e w' => e = .returned (.tuple #[]) ∧ WrI B b (bs' ++ (joinW (ws.map Wo.b) ++ [10])) w' ∧ Below B v w' ∧ KW v w') :=
    fun bs' ws cs n g v hg h1 h2 h3 h4 h5 h6 h7 => by rw [hg]; exact line_f B b bs' ws cs n v h1.out h3 h4 h5 h6 h7 (Nat.le_trans hBw h2.out.size) (fun u hu => HT.out u (h2.out.trans hu))
  have hb0 := (Below.refl _ w).alloc (Nat.le_refl _) (.cells #[.string x.nm, .slice x.a x.n x.c] 47)
  have H0 := hideS (wr_on h hb0)
  have B0 := hideS (hb0.mono hBw)
  have K0 := hideS (kw_on hb0)
  clear hb0 h hR hT hok
  have hl0 := HL.out 0 (Nat.zero_le _)
  rw [show (setJ x 0).length = (joinW [wSet, x.nm.data.toList]).length + 1 by unfold setJ; rw [List.range_zero, List.map_nil, lines_one, List.length_append]; rfl] at hl0
  have HS : Hid (∀ v : World, KW (w.alloc (.cells #[.string x.nm, .slice x.a x.n x.c] 47)) v → v.cell? ⟨w.heap.size, 1, none⟩ = some (.slice x.a x.n x.c)) := fun v hv => by
    rw [Lib.cell_of_heap (hv _ _ _ _ (World.alloc_heap_new _ _) (by decide) (by decide))]
    rfl
  have HZ : Hid (setJ x 0 = joinW ([.t ⟨#[115, 101, 116]⟩, .t x.nm].map Wo.b) ++ [10]) := by
    show setJ x 0 = _
    unfold setJ
    rw [List.range_zero, List.map_nil, lines_one]
    rfl
  have HOr : Hid (∀ (a : ByteArray) (v : World) (g : Nat), g = v.heap.size → Calls Tryz.prog 34 #[.slice (some ⟨g, 0, none⟩) 2 2] (v.alloc (.cells #[.string a, .string ⟨#[45]⟩] 9)) fun e w' => e = .returned (.string (if a.data.toList = [] then ⟨#[45]⟩ else a)) ∧ w' = v.alloc (.cells #[.string a, .string ⟨#[45]⟩] 9)) := fun a v g hg => by
    subst hg
    exact orS_c a _ 2 _ (box2 v _ _ _).1 (box2 v _ _ _).2
  go_enter Tryz.func13, Tryz.ntmps13
  go_wp2_with (go_at_call 15; refine (HLf.out bs [.t ⟨#[115, 101, 116]⟩, .t x.nm] _ _ _ (w.alloc (.cells #[.string x.nm, .slice x.a x.n x.c] 47)) (by simp) H0 B0 rfl rfl (by simp [Wo.ok]) (by simp) hl0).mono ?_; rintro e w1 ⟨rfl, i1, b1, k1⟩; have S1 := HS.out _ k1; have I1 : Hid (WrI B b (bs ++ setJ x 0) w1) := (by rw [HZ.out]; exact i1); have B1 := hideS (B0.out.trans b1); have K1 := hideS (K0.out.trans k1); clear i1 b1 k1)
  go_loopw [17] (fun x17 wr => ∃ k : Nat, k ≤ x.n ∧ x17 = .int .i64 k ∧ Hid (WrI B b (bs ++ setJ x k) wr) ∧ Hid (Below B w wr) ∧ Hid (KW w wr)) (fun x17 _ => x.n - (intOf x17).toNat)
  case atStart => exact ⟨0, Nat.zero_le _, rfl, I1, B1, K1⟩
  case round =>
    obtain ⟨k, hk, rfl, HI, HB, HK⟩ := hrel
    by_cases hlt : k < x.n
    · rcases HR.out wr HB.out with h0 | ⟨rb, off, hsa, hrow⟩
      · omega
      obtain ⟨g0, g1, g2, g3, g4, g5, g6, g7, g8⟩ := hrow k hlt
      have hl := HL.out (k + 1) hlt
      rw [setJ_succ, List.length_append, List.length_append] at hl
      have HJ := hideS (setJ_succ x k)
      have hok := rule_ok (HO.out k hlt)
      have hwo := rule_wo (x.rs k)
      obtain ⟨r, hr⟩ : ∃ r, r = x.rs k := ⟨_, rfl⟩
      rw [← hr] at g0 g1 g2 g3 g4 g5 g6 g7 g8 hl HJ hok hwo
      rw [← hwo] at HJ hl
      clear hrow hr hwo
      have hb2 := bthen ((Below.refl _ wr).alloc (Nat.le_refl _) (.cells r.cs 65)) ((Below.refl _ (wr.alloc (.cells r.cs 65))).alloc (Nat.le_refl _) (.cells #[.string r.s, .string ⟨#[45]⟩] 9))
      have I2 := hideS (wr_on HI.out hb2)
      have B2 := hideS (HB.out.trans (hb2.mono (Nat.le_trans hBw HB.out.size)))
      have K2 := hideS (HK.out.trans (kw_on hb2))
      have HOk := hideS hok
      have hl2 : (bs ++ setJ x k).length + ((joinW ((ruleWo r).map Wo.b)).length + 1) ≤ 140737488355328 := by rw [List.length_append]; simpa [Nat.add_assoc] using hl
      have HL2 := hideS hl2
      have HOr2 := hideS (fun v g hg => HOr.out r.s v g hg)
      obtain ⟨L, hL⟩ : ∃ L : ByteArray, L = if r.s.data.toList = [] then ⟨#[45]⟩ else r.s := ⟨_, rfl⟩
      rw [← hL] at HOr2
      have hws : Hid (ruleWo r = [.t ⟨#[114, 117, 108, 101]⟩, .n r.f, .n r.t, .n r.m, .n r.k, .n r.wk, .n r.D, .n r.a, .n r.sv, .t L]) := by rw [hL]; rfl
      clear hb2 hok hl hl2 hL HOr
      go_wp2_with (first
        | (go_at_call 34; refine (HOr2.out _ _ (by simp)).mono ?_; rintro e w2 ⟨rfl, rfl⟩)
        | (go_at_call 15; refine (HLf.out _ (ruleWo r) _ _ _ _ ?hg I2 B2 ?hc ?hn HOk.out ?hm HL2.out).mono ?_; rotate_left 4; rintro e w3 ⟨rfl, i3, b3, k3⟩))
      case hg => simp
      case hc => rw [hws.out]; rfl
      case hn => rw [hws.out]; rfl
      case hm => rw [hws.out]; simp
      have I3 : Hid (WrI B b (bs ++ setJ x (k + 1)) w3) := by
        show WrI B b (bs ++ setJ x (k + 1)) w3
        rw [HJ.out, ← List.append_assoc]
        exact i3
      have B3 := hideS (B2.out.trans b3)
      have K3 := hideS (K2.out.trans k3)
      clear i3 b3 k3
      try simp only [← hsa]
      go_roundw
      case rel => exact ⟨k + 1, by omega, by go_num, I3, B3, K3⟩
      case measure => simp [intOf]; omega
    · obtain rfl : k = x.n := by omega
      go_wp2_with fail
      go_end0
      exact ⟨rfl, HI.out, HB.out, HK.out⟩
end Go.Proofs.YtbpdbggojgijiaaGreatDoor.Src

/- A zone is written. -/
namespace Go.Proofs.YtbpdbggojgijiaaGreatDoor.Src
open Go Go.RowKit
set_option linter.unusedVariables false

/-- the words of an era -/
def eraWo (x : Er) : List Wo := [.t ⟨#[101, 114, 97]⟩, .n x.std, .n x.set, .n x.sv, .t x.fm, .n x.un]
theorem era_wo (x : Er) : (eraWo x).map Wo.b = lnEra Lib.itoa x := rfl
/-- what is written of a zone whose first k eras are written -/
def zoneJ (x : Zn) (k : Nat) : By := linesB (joinW [wZone, x.nm.data.toList] :: (List.range k).map fun i => joinW (lnEra Lib.itoa (x.es i)))
theorem zoneJ_succ (x : Zn) (k : Nat) : zoneJ x (k + 1) = zoneJ x k ++ (joinW (lnEra Lib.itoa (x.es k)) ++ [10]) := by
  unfold zoneJ
  rw [List.range_succ, List.map_append, ← List.cons_append, lines_app]
  simp [linesB]
def Er.numOk (x : Er) : Prop := (Wo.n x.std).ok ∧ (Wo.n x.set).ok ∧ (Wo.n x.sv).ok ∧ (Wo.n x.un).ok
theorem era_ok {x : Er} (h : Er.numOk x) : ∀ y ∈ eraWo x, y.ok := by
  obtain ⟨h1, h2, h3, h4⟩ := h
  intro y hy
  simp only [eraWo, List.mem_cons, List.not_mem_nil, or_false] at hy
  rcases hy with rfl | rfl | rfl | rfl | rfl | rfl <;> first | assumption | exact trivial
set_option maxHeartbeats 8000000 in
set_option maxRecDepth 100000 in
theorem zone_c (B b : Nat) (bs : By) (x : Zn) (w : World) (h : WrI B b bs w) (hR : ∀ v : World, Below B w v → ERow v x.a x.n x.es) (hok : ∀ i, i < x.n → Er.numOk (x.es i)) (hn : x.n ≤ 100) (hlen : bs.length + (zoneJ x x.n).length ≤ 140737488355328) (hBw : B ≤ w.heap.size) (hT : ∀ v : World, Below B w v → TabW v) :
    Calls Tryz.prog 14 #[.pointer (some ⟨b, 0, none⟩), .agg #[.string x.nm, x.sl]] w fun e w' => e = .returned (.tuple #[]) ∧ WrI B b (bs ++ zoneJ x x.n) w' ∧ Below B w w' ∧ KW w w' := by
  have HL : Hid (∀ k, k ≤ x.n → bs.length + (zoneJ x k).length ≤ 140737488355328) := fun k hk => by
    have := mono_len (J := zoneJ x) (fun k => ⟨_, zoneJ_succ x k⟩) hk
    omega
  have HR := hideS hR
  have HT := hideS hT
  have HO := hideS hok
  have HLf : Hid (∀ (bs' : By) (ws : List Wo) (cs : Array Value) (n g : Nat) (v : World), g = v.heap.size → Hid (WrI B b bs' v) → Hid (Below B w v) → cs.toList = ws.map Wo.v → n = ws.length → (∀ x ∈ ws, x.ok) → ws.length ≤ 100 → bs'.length + ((joinW (ws.map Wo.b)).length + 1) ≤ 140737488355328 → Calls Tryz.prog 15 #[.pointer (some ⟨b, 0, none⟩), .slice (some ⟨g, 0, none⟩) n n] (v.alloc (.cells cs 20)) fun e w' => e = .returned (.tuple #[]) ∧ WrI B b (bs' ++ (joinW (ws.map Wo.b) ++ [10])) w' ∧ Below B v w' ∧ KW v w') :=
    fun bs' ws cs n g v hg h1 h2 h3 h4 h5 h6 h7 => by rw [hg]; exact line_f B b bs' ws cs n v h1.out h3 h4 h5 h6 h7 (Nat.le_trans hBw h2.out.size) (fun u hu => HT.out u (h2.out.trans hu))
  have hb0 := (Below.refl _ w).alloc (Nat.le_refl _) (.cells #[.string x.nm, .slice x.a x.n x.c] 51)
  have H0 := hideS (wr_on h hb0)
  have B0 := hideS (hb0.mono hBw)
  have K0 := hideS (kw_on hb0)
  clear hb0 h hR hT hok
  have hl0 := HL.out 0 (Nat.zero_le _)
  rw [show (zoneJ x 0).length = (joinW [wZone, x.nm.data.toList]).length + 1 by unfold zoneJ; rw [List.range_zero, List.map_nil, lines_one, List.length_append]; rfl] at hl0
  have HS : Hid (∀ v : World, KW (w.alloc (.cells #[.string x.nm, .slice x.a x.n x.c] 51)) v → v.cell? ⟨w.heap.size, 1, none⟩ = some (.slice x.a x.n x.c)) := fun v hv => by
    rw [Lib.cell_of_heap (hv _ _ _ _ (World.alloc_heap_new _ _) (by decide) (by decide))]
    rfl
  have HZ : Hid (zoneJ x 0 = joinW ([.t ⟨#[122, 111, 110, 101]⟩, .t x.nm].map Wo.b) ++ [10]) := by
    show zoneJ x 0 = _
    unfold zoneJ
    rw [List.range_zero, List.map_nil, lines_one]
    rfl
  go_enter Tryz.func14, Tryz.ntmps14
  go_wp2_with (go_at_call 15; refine (HLf.out bs [.t ⟨#[122, 111, 110, 101]⟩, .t x.nm] _ _ _ (w.alloc (.cells #[.string x.nm, .slice x.a x.n x.c] 51)) (by simp) H0 B0 rfl rfl (by simp [Wo.ok]) (by simp) hl0).mono ?_; rintro e w1 ⟨rfl, i1, b1, k1⟩; have S1 := HS.out _ k1; have I1 : Hid (WrI B b (bs ++ zoneJ x 0) w1) := (by rw [HZ.out]; exact i1); have B1 := hideS (B0.out.trans b1); have K1 := hideS (K0.out.trans k1); clear i1 b1 k1)
  go_loopw [16] (fun x16 wr => ∃ k : Nat, k ≤ x.n ∧ x16 = .int .i64 k ∧ Hid (WrI B b (bs ++ zoneJ x k) wr) ∧ Hid (Below B w wr) ∧ Hid (KW w wr)) (fun x16 _ => x.n - (intOf x16).toNat)
  case atStart => exact ⟨0, Nat.zero_le _, rfl, I1, B1, K1⟩
  case round =>
    obtain ⟨k, hk, rfl, HI, HB, HK⟩ := hrel
    by_cases hlt : k < x.n
    · rcases HR.out wr HB.out with h0 | ⟨rb, off, hsa, hrow⟩
      · omega
      obtain ⟨g0, g1, g2, g3, g4⟩ := hrow k hlt
      have hl := HL.out (k + 1) hlt
      rw [zoneJ_succ, List.length_append, List.length_append] at hl
      have HJ := hideS (zoneJ_succ x k)
      have hok := era_ok (HO.out k hlt)
      have hwo := era_wo (x.es k)
      obtain ⟨r, hr⟩ : ∃ r, r = x.es k := ⟨_, rfl⟩
      rw [← hr] at g0 g1 g2 g3 g4 hl HJ hok hwo
      rw [← hwo] at HJ hl
      clear hrow hr hwo
      have hb2 := (Below.refl _ wr).alloc (Nat.le_refl _) (.cells #[.int .i64 r.std, .int .i64 r.set, .int .i64 r.sv, .string r.fm, .int .i64 r.un] 67)
      have I2 := hideS (wr_on HI.out hb2)
      have B2 := hideS (HB.out.trans (hb2.mono (Nat.le_trans hBw HB.out.size)))
      have K2 := hideS (HK.out.trans (kw_on hb2))
      have HOk := hideS hok
      have hl2 : (bs ++ zoneJ x k).length + ((joinW ((eraWo r).map Wo.b)).length + 1) ≤ 140737488355328 := by rw [List.length_append]; simpa [Nat.add_assoc] using hl
      have HL2 := hideS hl2
      clear hb2 hok hl hl2
      go_wp2_with (first
        | (go_at_call 15; refine (HLf.out _ (eraWo r) _ _ _ _ ?hg I2 B2 ?hc ?hn HOk.out ?hm HL2.out).mono ?_; rotate_left 4; rintro e w3 ⟨rfl, i3, b3, k3⟩))
      case hg => simp
      case hc => rfl
      case hn => rfl
      case hm => simp [eraWo]
      have I3 : Hid (WrI B b (bs ++ zoneJ x (k + 1)) w3) := by
        show WrI B b (bs ++ zoneJ x (k + 1)) w3
        rw [HJ.out, ← List.append_assoc]
        exact i3
      have B3 := hideS (B2.out.trans b3)
      have K3 := hideS (K2.out.trans k3)
      clear i3 b3 k3
      try simp only [← hsa]
      go_roundw
      case rel => exact ⟨k + 1, by omega, by go_num, I3, B3, K3⟩
      case measure => simp [intOf]; omega
    · obtain rfl : k = x.n := by omega
      go_wp2_with fail
      go_end0
      exact ⟨rfl, HI.out, HB.out, HK.out⟩
end Go.Proofs.YtbpdbggojgijiaaGreatDoor.Src

/- source.Show. -/
namespace Go.Proofs.YtbpdbggojgijiaaGreatDoor.Src
open Go Go.RowKit
set_option linter.unusedVariables false

/-- texts, one behind the other -/
def catJ (f : Nat → By) (k : Nat) : By := (List.range k).flatMap f
theorem catJ_succ (f : Nat → By) (k : Nat) : catJ f (k + 1) = catJ f k ++ f k := by
  unfold catJ
  rw [List.range_succ, List.flatMap_append]
  simp
theorem catJ_le (f : Nat → By) {k n : Nat} (h : k ≤ n) : (catJ f k).length ≤ (catJ f n).length := mono_len (J := catJ f) (fun k => ⟨_, catJ_succ f k⟩) h
abbrev setB (D : Dt) (j : Nat) : By := setJ (D.ss j) (D.ss j).n
abbrev zoneB (D : Dt) (j : Nat) : By := zoneJ (D.zs j) (D.zs j).n
def linkB (D : Dt) (j : Nat) : By := joinW [wLink, (D.ls j).nm.data.toList, (D.ls j).tgt.data.toList] ++ [10]
/-- what is written of data -/
def showD (D : Dt) : By := catJ (setB D) D.ns ++ (catJ (zoneB D) D.nz ++ catJ (linkB D) D.nl)
/-- data whose numbers Go bears, and not too many of all -/
structure ShOk (D : Dt) : Prop where
  ns : D.ns ≤ 100
  nz : D.nz ≤ 100
  nl : D.nl ≤ 100
  sn : ∀ j, j < D.ns → (D.ss j).n ≤ 100
  zn : ∀ j, j < D.nz → (D.zs j).n ≤ 100
  ru : ∀ j, j < D.ns → ∀ i, i < (D.ss j).n → Rl.numOk ((D.ss j).rs i)
  er : ∀ j, j < D.nz → ∀ i, i < (D.zs j).n → Er.numOk ((D.zs j).es i)
  len : (showD D).length ≤ 1000000
theorem wr_new {B : Nat} (w : World) (hB : B ≤ w.heap.size) : WrI B w.heap.size [] (w.alloc (.cells #[.pointer none, .slice none 0 0] 44)) :=
  .inl ⟨hB, _, World.alloc_heap_new _ _, World.ownsRow_nil _ _ _ _, by simp [Value.ownBlock]⟩
set_option maxHeartbeats 16000000 in
set_option maxRecDepth 100000 in
theorem Show_ok (D : Dt) (w : World) (hE : Env w D) (hF : D.fits) (hT : TabW w) (hc : chkE D = 0) (hO : ShOk D) (htab : ∀ v : World, Below w.heap.size w v → TabW v) :
    Calls Tryz.prog 5 #[D.v] w fun e w' => e = .returned (.tuple #[.string ⟨(showD D).toArray⟩, .int .i64 0]) ∧ Below w.heap.size w w' := by
  have hb0 := (Below.refl _ w).alloc (Nat.le_refl _) (.cells #[.slice D.sa D.ns D.sc, .slice D.za D.nz D.zc, .slice D.la D.nl D.lc] 26)
  have HC := hideS (DCheck_c D _ (hE.on hb0) hF)
  rw [hc] at HC
  have HD := hideS hE.dat
  have HT := hideS htab
  have HO := hideS hO
  have hns := hO.ns
  have hnz := hO.nz
  have hnl := hO.nl
  have HB0 := hideS hb0
  clear hb0 hE hF hT hc htab hO
  go_enter Tryz.func5, Tryz.ntmps5
  go_wp2_with (go_at_call 12; refine HC.out.mono ?_; rintro e w1 ⟨rfl, b1⟩; have Q1 := hideS (heap_on (World.alloc_heap_new _ _) b1); have hsz : w.heap.size < w1.heap.size := (Array.getElem?_eq_some_iff.1 Q1.out).1; obtain ⟨q0, q1, q2⟩ := cells3 Q1.out; have B1 := hideS (bthen HB0.out b1); clear b1)
  have hbW := (Below.refl _ w1).alloc (Nat.le_refl _) (.cells #[.pointer none, .slice none 0 0] 44)
  have W0 := hideS (wr_new w1 B1.out.size)
  have BW := hideS (bthen B1.out hbW)
  have Q2 := hideS (heap_on Q1.out hbW)
  obtain ⟨W, hW⟩ : ∃ W, W = w1.alloc (.cells #[.pointer none, .slice none 0 0] 44) := ⟨_, rfl⟩
  obtain ⟨b, hb⟩ : ∃ b, b = w1.heap.size := ⟨_, rfl⟩
  rw [← hW] at W0 BW Q2
  rw [← hb] at W0
  simp only [← hW, ← hb]
  clear hW hb hbW Q1 B1 q0 q1 q2 hsz HB0 HC
  have HQ : Hid (∀ v : World, KW W v → v.cell? ⟨w.heap.size, 0, none⟩ = some (.slice D.sa D.ns D.sc) ∧ v.cell? ⟨w.heap.size, 1, none⟩ = some (.slice D.za D.nz D.zc) ∧ v.cell? ⟨w.heap.size, 2, none⟩ = some (.slice D.la D.nl D.lc)) := fun v hv => cells3 (hv _ _ _ _ Q2.out (by decide) (by decide))
  have HL := HO.out.len
  unfold showD at HL
  rw [List.length_append, List.length_append] at HL
  have HBd : Hid (∀ k, k ≤ D.ns → (catJ (setB D) k).length ≤ (catJ (setB D) D.ns).length) := fun k hk => catJ_le _ hk
  have HBz : Hid (∀ k, k ≤ D.nz → (catJ (zoneB D) k).length ≤ (catJ (zoneB D) D.nz).length) := fun k hk => catJ_le _ hk
  have HBl : Hid (∀ k, k ≤ D.nl → (catJ (linkB D) k).length ≤ (catJ (linkB D) D.nl).length) := fun k hk => catJ_le _ hk
  have H0 : Hid (WrI w.heap.size b (catJ (setB D) 0) W) := W0.out
  have KW0 := hideS (KW.refl W)
  go_loopw [20] (fun x20 wr => ∃ k : Nat, k ≤ D.ns ∧ x20 = .int .i64 k ∧ Hid (WrI w.heap.size b (catJ (setB D) k) wr) ∧ Hid (Below w.heap.size w wr) ∧ Hid (KW W wr)) (fun x20 _ => D.ns - (intOf x20).toNat)
  case atStart => exact ⟨0, Nat.zero_le _, rfl, H0, BW, KW0⟩
  case round =>
    obtain ⟨k, hk, rfl, HI, HB, HK⟩ := hrel
    by_cases hlt : k < D.ns
    · rcases (HD.out.on HB.out).sets with h0 | ⟨sb, off, hsa, hcs⟩
      · omega
      obtain ⟨c0, c1⟩ := hcs k hlt
      clear hcs
      simp only at c0 c1
      have hbx := (Below.refl _ wr).alloc (Nat.le_refl _) (.cells #[.string (D.ss k).nm, .slice (D.ss k).a (D.ss k).n (D.ss k).c] 47)
      have IX := wr_on HI.out hbx
      have BX := bthen HB.out hbx
      have hll : (catJ (setB D) k).length + (setJ (D.ss k) (D.ss k).n).length ≤ 140737488355328 := by
        have h1 := HBd.out (k + 1) hlt
        rw [catJ_succ, List.length_append] at h1
        have h2 : (setB D k).length = (setJ (D.ss k) (D.ss k).n).length := rfl
        omega
      have HS := hideS (set_c w.heap.size b (catJ (setB D) k) (D.ss k) _ IX (fun v hv => (HD.out.on (BX.trans hv)).rules k hlt) (HO.out.ru k hlt) (HO.out.sn k hlt) hll BX.size (fun v hv => HT.out v (BX.trans hv)))
      have BX2 := hideS BX
      have KX := hideS (HK.out.trans (kw_on hbx))
      clear hbx IX BX hll
      go_wp2_with (go_at_call 13; refine HS.out.mono ?_; rintro e w3 ⟨rfl, i3, b3, k3⟩)
      have I3 : Hid (WrI w.heap.size b (catJ (setB D) (k + 1)) w3) := by
        show WrI w.heap.size b (catJ (setB D) (k + 1)) w3
        rw [catJ_succ]
        exact i3
      have B3 := hideS (BX2.out.trans b3)
      have K3 := hideS (KX.out.trans k3)
      clear i3 b3 k3
      try simp only [← hsa]
      go_roundw
      case rel => exact ⟨k + 1, by omega, by go_num, I3, B3, K3⟩
      case measure => simp [intOf]; omega
    · obtain rfl : k = D.ns := by omega
      obtain ⟨q0, q1, q2⟩ := HQ.out wr HK.out
      go_wp2_with fail
      have H1 : Hid (WrI w.heap.size b (catJ (setB D) D.ns ++ catJ (zoneB D) 0) wr) := by
        show WrI w.heap.size b (catJ (setB D) D.ns ++ []) wr
        rw [List.append_nil]
        exact HI.out
      obtain ⟨wz, hwz⟩ : ∃ wz, wz = wr := ⟨_, rfl⟩
      simp only [← hwz] at H1 HB HK ⊢
      clear HI hwz q0 q1 q2
      go_loopw [30] (fun x30 wr => ∃ k : Nat, k ≤ D.nz ∧ x30 = .int .i64 k ∧ Hid (WrI w.heap.size b (catJ (setB D) D.ns ++ catJ (zoneB D) k) wr) ∧ Hid (Below w.heap.size w wr) ∧ Hid (KW W wr)) (fun x30 _ => D.nz - (intOf x30).toNat)
      case atStart => exact ⟨0, Nat.zero_le _, rfl, H1, HB, HK⟩
      case round =>
        obtain ⟨k, hk2, rfl, HI, HB, HK⟩ := hrel
        by_cases hlt2 : k < D.nz
        · rcases (HD.out.on HB.out).zones with h0 | ⟨sb, off, hza, hcs⟩
          · omega
          obtain ⟨c0, c1⟩ := hcs k hlt2
          clear hcs
          simp only at c0 c1
          have hbx := (Below.refl _ wr).alloc (Nat.le_refl _) (.cells #[.string (D.zs k).nm, .slice (D.zs k).a (D.zs k).n (D.zs k).c] 51)
          have IX := wr_on HI.out hbx
          have BX := bthen HB.out hbx
          have hll : (catJ (setB D) D.ns ++ catJ (zoneB D) k).length + (zoneJ (D.zs k) (D.zs k).n).length ≤ 140737488355328 := by
            have h1 := HBz.out (k + 1) hlt2
            rw [catJ_succ, List.length_append] at h1
            have h2 : (zoneB D k).length = (zoneJ (D.zs k) (D.zs k).n).length := rfl
            rw [List.length_append]
            omega
          have HS := hideS (zone_c w.heap.size b _ (D.zs k) _ IX (fun v hv => (HD.out.on (BX.trans hv)).eras k hlt2) (HO.out.er k hlt2) (HO.out.zn k hlt2) hll BX.size (fun v hv => HT.out v (BX.trans hv)))
          have BX2 := hideS BX
          have KX := hideS (HK.out.trans (kw_on hbx))
          clear hbx IX BX hll
          go_wp2_with (go_at_call 14; refine HS.out.mono ?_; rintro e w3 ⟨rfl, i3, b3, k3⟩)
          have I3 : Hid (WrI w.heap.size b (catJ (setB D) D.ns ++ catJ (zoneB D) (k + 1)) w3) := by
            show WrI w.heap.size b (catJ (setB D) D.ns ++ catJ (zoneB D) (k + 1)) w3
            rw [catJ_succ, ← List.append_assoc]
            exact i3
          have B3 := hideS (BX2.out.trans b3)
          have K3 := hideS (KX.out.trans k3)
          clear i3 b3 k3
          try simp only [← hza]
          go_roundw
          case rel => exact ⟨k + 1, by omega, by go_num, I3, B3, K3⟩
          case measure => simp [intOf]; omega
        · obtain rfl : k = D.nz := by omega
          obtain ⟨q0, q1, q2⟩ := HQ.out wr HK.out
          go_wp2_with fail
          have H2 : Hid (WrI w.heap.size b (catJ (setB D) D.ns ++ catJ (zoneB D) D.nz ++ catJ (linkB D) 0) wr) := by
            show WrI w.heap.size b (catJ (setB D) D.ns ++ catJ (zoneB D) D.nz ++ []) wr
            rw [List.append_nil]
            exact HI.out
          obtain ⟨wl, hwl⟩ : ∃ wl, wl = wr := ⟨_, rfl⟩
          simp only [← hwl] at H2 HB HK ⊢
          clear HI hwl q0 q1 q2
          go_loopw [40] (fun x40 wr => ∃ k : Nat, k ≤ D.nl ∧ x40 = .int .i64 k ∧ Hid (WrI w.heap.size b (catJ (setB D) D.ns ++ catJ (zoneB D) D.nz ++ catJ (linkB D) k) wr) ∧ Hid (Below w.heap.size w wr) ∧ Hid (KW W wr)) (fun x40 _ => D.nl - (intOf x40).toNat)
          case atStart => exact ⟨0, Nat.zero_le _, rfl, H2, HB, HK⟩
          case round =>
            obtain ⟨k, hk3, rfl, HI, HB, HK⟩ := hrel
            by_cases hlt3 : k < D.nl
            · rcases (HD.out.on HB.out).links with h0 | ⟨sb, off, hla, hcs⟩
              · omega
              obtain ⟨c0, c1⟩ := hcs k hlt3
              clear hcs
              simp only at c0 c1
              have hbx := (Below.refl _ wr).alloc (Nat.le_refl _) (.cells #[.string (D.ls k).nm, .string (D.ls k).tgt] 54)
              have IX := wr_on HI.out hbx
              have BX := bthen HB.out hbx
              have hll : (catJ (setB D) D.ns ++ catJ (zoneB D) D.nz ++ catJ (linkB D) k).length + ((joinW ([.t ⟨#[108, 105, 110, 107]⟩, .t (D.ls k).nm, .t (D.ls k).tgt].map Wo.b)).length + 1) ≤ 140737488355328 := by
                have h1 := HBl.out (k + 1) hlt3
                rw [catJ_succ, List.length_append] at h1
                have h2 : (linkB D k).length = (joinW ([.t ⟨#[108, 105, 110, 107]⟩, .t (D.ls k).nm, .t (D.ls k).tgt].map Wo.b)).length + 1 := by unfold linkB; rw [List.length_append]; rfl
                rw [List.length_append, List.length_append]
                omega
              have HS : Hid (∀ g : Nat, g = (wr.alloc (.cells #[.string (D.ls k).nm, .string (D.ls k).tgt] 54)).heap.size → Calls Tryz.prog 15 #[.pointer (some ⟨b, 0, none⟩), .slice (some ⟨g, 0, none⟩) 3 3] ((wr.alloc (.cells #[.string (D.ls k).nm, .string (D.ls k).tgt] 54)).alloc (.cells #[.iface 9 (.string ⟨#[108, 105, 110, 107]⟩), .iface 9 (.string (D.ls k).nm), .iface 9 (.string (D.ls k).tgt)] 20)) fun e w' => e = .returned (.tuple #[]) ∧ WrI w.heap.size b ((catJ (setB D) D.ns ++ catJ (zoneB D) D.nz ++ catJ (linkB D) k) ++ linkB D k) w' ∧ Below w.heap.size (wr.alloc (.cells #[.string (D.ls k).nm, .string (D.ls k).tgt] 54)) w' ∧ KW (wr.alloc (.cells #[.string (D.ls k).nm, .string (D.ls k).tgt] 54)) w') := fun g hg => by
                rw [hg]
                exact line_f w.heap.size b _ [.t ⟨#[108, 105, 110, 107]⟩, .t (D.ls k).nm, .t (D.ls k).tgt] _ 3 _ IX rfl rfl (by simp [Wo.ok]) (by simp) hll BX.size (fun v hv => HT.out v (BX.trans hv))
              have BX2 := hideS BX
              have KX := hideS (HK.out.trans (kw_on hbx))
              clear hbx IX BX hll
              go_wp2_with (go_at_call 15; refine (HS.out _ (by simp)).mono ?_; rintro e w3 ⟨rfl, i3, b3, k3⟩)
              have I3 : Hid (WrI w.heap.size b (catJ (setB D) D.ns ++ catJ (zoneB D) D.nz ++ catJ (linkB D) (k + 1)) w3) := by
                show WrI w.heap.size b (catJ (setB D) D.ns ++ catJ (zoneB D) D.nz ++ catJ (linkB D) (k + 1)) w3
                rw [catJ_succ, ← List.append_assoc]
                exact i3
              have B3 := hideS (BX2.out.trans b3)
              have K3 := hideS (KX.out.trans k3)
              clear i3 b3 k3
              try simp only [← hla]
              go_roundw
              case rel => exact ⟨k + 1, by omega, by go_num, I3, B3, K3⟩
              case measure => simp [intOf]; omega
            · obtain rfl : k = D.nl := by omega
              have HX := hideS (wrText_c w.heap.size b _ wr HI.out HB.out.size)
              go_wp2_with (go_at_call 16; refine HX.out.mono ?_; rintro e w3 ⟨rfl, b3⟩)
              go_ret2
              refine ⟨?_, HB.out.trans b3⟩
              unfold showD
              rfl
set_option maxHeartbeats 4000000 in
theorem Show_no (D : Dt) (w : World) (hE : Env w D) (hF : D.fits) (hc : chkE D ≠ 0) :
    Calls Tryz.prog 5 #[D.v] w fun e w' => e = .returned (.tuple #[.string ⟨#[]⟩, .int .i64 (chkE D)]) ∧ Below w.heap.size w w' := by
  have hb0 := (Below.refl _ w).alloc (Nat.le_refl _) (.cells #[.slice D.sa D.ns D.sc, .slice D.za D.nz D.zc, .slice D.la D.nl D.lc] 26)
  have HC := hideS (DCheck_c D _ (hE.on hb0) hF)
  have HB0 := hideS hb0
  generalize chkE D = e0 at *
  clear hb0 hE hF
  go_enter Tryz.func5, Tryz.ntmps5
  go_wp2_with (go_at_call 12; refine HC.out.mono ?_; rintro e w1 ⟨rfl, b1⟩)
  go_ret2
  exact ⟨rfl, bthen HB0.out b1⟩
end Go.Proofs.YtbpdbggojgijiaaGreatDoor.Src

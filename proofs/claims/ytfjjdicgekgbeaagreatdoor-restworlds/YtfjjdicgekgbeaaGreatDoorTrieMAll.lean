/- Tries in plain Lean: what building lays, and what is found. -/
import Derived.WalkKit
import Derived.Test.YtfjjdicgekgbeaaGreatDoorProg
import Derived.WalkSpells
import Derived.WalkSmall
import Derived.Deep.QuietTactic
import Derived.BigQuiet
import Derived.OwnWalk
import Derived.Test.YtfjjdicgekgbeaaGreatDoorDataAAll
import Derived.Shelf.Abstract
import Derived.Shelf.RegionOpen
import Derived.OwnWalkIn
import Derived.TacticsInMore
import Derived.LoopNIn
import Derived.LoopIn
import Derived.Deep.RegionHeld3
namespace Go.Proofs.YtfjjdicgekgbeaaGreatDoor.Tri
open Go
set_option linter.unusedVariables false

structure Nd where
  es : List (UInt8 × Int)
  wd : Int
def nod (t : List Nd) (i : Nat) : Nd := t[i]?.getD ⟨[], -1⟩
def edg (es : List (UInt8 × Int)) (c : UInt8) : Option Int := (es.find? fun e => e.1 == c).map (·.2)
/-- how many edges have less bytes -/
def cnt (es : List (UInt8 × Int)) (c : UInt8) : Nat := es.countP fun e => decide (e.1 < c)
def ins (es : List (UInt8 × Int)) (c : UInt8) (k : Int) : List (UInt8 × Int) := es.take (cnt es c) ++ (c, k) :: es.drop (cnt es c)
def Rises (es : List (UInt8 × Int)) : Prop := es.Pairwise fun a b => a.1 < b.1

theorem cnt_split {es : List (UInt8 × Int)} (h : Rises es) (c : UInt8) : (∀ e ∈ es.take (cnt es c), e.1 < c) ∧ (∀ e ∈ es.drop (cnt es c), ¬ e.1 < c) := by
  induction es with
  | nil => simp
  | cons a r ih =>
    obtain ⟨h1, h2⟩ := List.pairwise_cons.1 h
    obtain ⟨i1, i2⟩ := ih h2
    by_cases ha : a.1 < c
    · have e : cnt (a :: r) c = cnt r c + 1 := by unfold cnt; rw [List.countP_cons_of_pos (by simpa using ha)]
      rw [e]
      refine ⟨fun x hx => ?_, fun x hx => ?_⟩
      · simp only [List.take_succ_cons, List.mem_cons] at hx
        rcases hx with rfl | hx
        · exact ha
        · exact i1 x hx
      · simp only [List.drop_succ_cons] at hx
        exact i2 x hx
    · have e : cnt (a :: r) c = 0 := by
        unfold cnt
        rw [List.countP_eq_zero]
        intro x hx
        rcases List.mem_cons.1 hx with rfl | hx
        · simpa using ha
        · have := h1 x hx
          simp only [decide_eq_true_eq]
          intro h3
          exact ha (UInt8.lt_trans this h3)
      rw [e]
      refine ⟨fun x hx => by simp at hx, fun x hx => ?_⟩
      rcases List.mem_cons.1 hx with rfl | hx
      · exact ha
      · intro h3
        exact ha (UInt8.lt_trans (h1 x hx) h3)
theorem edg_mem {es : List (UInt8 × Int)} (h : Rises es) (c : UInt8) (k : Int) : edg es c = some k ↔ (c, k) ∈ es := by
  unfold edg
  induction es with
  | nil => simp
  | cons a r ih =>
    obtain ⟨h1, h2⟩ := List.pairwise_cons.1 h
    have ih := ih h2
    by_cases ha : a.1 = c
    · rw [List.find?_cons_of_pos (by simpa using ha)]
      simp only [Option.map_some, Option.some.injEq, List.mem_cons]
      constructor
      · intro e; left; rw [← ha, ← e]
      · rintro (e | e)
        · rw [← e]
        · have := h1 _ e
          rw [ha] at this
          exact absurd this (UInt8.lt_irrefl _)
    · rw [List.find?_cons_of_neg (by simpa using ha), ih]
      simp only [List.mem_cons]
      constructor
      · exact .inr
      · rintro (e | e)
        · exact absurd (by rw [← e]) ha
        · exact e
theorem edg_none {es : List (UInt8 × Int)} {c : UInt8} : edg es c = none ↔ ∀ e ∈ es, e.1 ≠ c := by
  unfold edg; simp
theorem ins_mem (es : List (UInt8 × Int)) (c : UInt8) (k : Int) (x : UInt8 × Int) : x ∈ ins es c k ↔ x = (c, k) ∨ x ∈ es := by
  unfold ins
  have := List.take_append_drop (cnt es c) es
  constructor
  · intro h
    rcases List.mem_append.1 h with h | h
    · exact .inr (List.mem_of_mem_take h)
    · rcases List.mem_cons.1 h with h | h
      · exact .inl h
      · exact .inr (List.mem_of_mem_drop h)
  · rintro (h | h)
    · rw [h]; simp
    · rw [← this] at h
      rcases List.mem_append.1 h with h | h
      · exact List.mem_append.2 (.inl h)
      · exact List.mem_append.2 (.inr (List.mem_cons.2 (.inr h)))
theorem ins_rises {es : List (UInt8 × Int)} (h : Rises es) {c : UInt8} (hn : ∀ e ∈ es, e.1 ≠ c) (k : Int) : Rises (ins es c k) := by
  obtain ⟨h1, h2⟩ := cnt_split h c
  unfold ins
  have hs := List.take_append_drop (cnt es c) es
  have h' := h
  unfold Rises at h'
  rw [← hs, List.pairwise_append] at h'
  obtain ⟨p1, p2, p3⟩ := h'
  have hd : ∀ e ∈ es.drop (cnt es c), c < e.1 := fun e he => by
    have a := h2 e he
    have b := hn e (List.mem_of_mem_drop he)
    have : ¬ e.1 = c := b
    rcases UInt8.lt_or_lt_of_ne this with h | h
    · exact absurd h a
    · exact h
  unfold Rises
  rw [List.pairwise_append]
  refine ⟨p1, List.pairwise_cons.2 ⟨hd, p2⟩, ?_⟩
  intro a ha b hb
  rcases List.mem_cons.1 hb with rfl | hb
  · exact h1 a ha
  · exact p3 a ha b hb

/-- whereto a text leads from a node -/
def go (t : List Nd) : Nat → List UInt8 → Option Nat
  | a, [] => some a
  | a, c :: s => match edg (nod t a).es c with
    | none => none
    | some k => go t k.toNat s
theorem go_append (t : List Nd) : ∀ (s r : List UInt8) (a : Nat), go t a (s ++ r) = (go t a s).bind fun k => go t k r
  | [], r, a => rfl
  | c :: s, r, a => by
    simp only [List.cons_append, go]
    cases edg (nod t a).es c with
    | none => rfl
    | some k => exact go_append t s r k.toNat

/-- a new node behind all -/
def grow (t : List Nd) (a : Nat) (c : UInt8) : List Nd := t.set a ⟨ins (nod t a).es c t.length, (nod t a).wd⟩ ++ [⟨[], -1⟩]
/-- the way of a text is laid from a node on -/
def lay : List Nd → Nat → List UInt8 → List Nd × Nat
  | t, a, [] => (t, a)
  | t, a, c :: s => match edg (nod t a).es c with
    | some k => lay t k.toNat s
    | none => lay (grow t a c) t.length s
/-- a word's number, if it has none -/
def mark (t : List Nd) (a : Nat) (k : Int) : List Nd := if (nod t a).wd = -1 then t.set a ⟨(nod t a).es, k⟩ else t
def addw (t : List Nd) (s : List UInt8) (k : Int) : List Nd := mark (lay t 0 s).1 (lay t 0 s).2 k
def start : List Nd := [⟨[], -1⟩]
/-- all words, the first n of them -/
def bldN (l : List (List UInt8)) : Nat → List Nd
  | 0 => start
  | n + 1 => addw (bldN l n) (l[n]?.getD []) n

structure Ok (t : List Nd) (pre : List (List UInt8)) : Prop where
  len : t.length = pre.length
  zero : pre[0]? = some []
  nd : pre.Nodup
  cl : ∀ p c, p ++ [c] ∈ pre → p ∈ pre
  ed : ∀ (i : Nat) p, pre[i]? = some p → ∀ c (k : Int), (c, k) ∈ (nod t i).es ↔ (0 ≤ k ∧ pre[k.toNat]? = some (p ++ [c]))
  so : ∀ i, Rises (nod t i).es
  up : ∀ (i : Nat) e, e ∈ (nod t i).es → (i : Int) < e.2

theorem ok_start : Ok start [[]] := by
  refine ⟨rfl, rfl, by simp, ?_, ?_, ?_, ?_⟩
  · intro p c h; simp at h
  · intro i p h c k
    have hi : i = 0 := by
      rcases Nat.eq_zero_or_pos i with h0 | h0
      · exact h0
      · rw [List.getElem?_eq_none (by simp; omega)] at h; cases h
    subst hi
    obtain rfl : [] = p := by simpa using h
    constructor
    · intro h; simp [start, nod] at h
    · rintro ⟨h0, h1⟩
      rcases Nat.eq_zero_or_pos k.toNat with h2 | h2
      · rw [h2] at h1; simp at h1
      · rw [List.getElem?_eq_none (by simp; omega)] at h1; cases h1
  · intro i
    rcases Nat.eq_zero_or_pos i with h0 | h0
    · subst h0; simp [start, nod, Rises]
    · simp [start, nod, Rises, show i ≠ 0 by omega]
  · intro i e h
    rcases Nat.eq_zero_or_pos i with h0 | h0
    · subst h0; simp [start, nod] at h
    · simp [start, nod, show i ≠ 0 by omega] at h
theorem nod_grow_same {t : List Nd} {a : Nat} (c : UInt8) (ha : a < t.length) : nod (grow t a c) a = ⟨ins (nod t a).es c t.length, (nod t a).wd⟩ := by
  unfold grow
  rw [nod, List.getElem?_append_left (by simpa using ha), List.getElem?_set_self (by simpa using ha)]; rfl
theorem nod_grow_other {t : List Nd} {a i : Nat} (c : UInt8) (ha : a < t.length) (h : i ≠ a) : nod (grow t a c) i = nod t i := by
  have e : (grow t a c)[i]?.getD ⟨[], -1⟩ = t[i]?.getD ⟨[], -1⟩ := by
    unfold grow
    by_cases hi : i < t.length
    · rw [List.getElem?_append_left (by simpa using hi), List.getElem?_set_ne (by omega)]
    · rw [List.getElem?_eq_none (l := t) (by omega)]
      by_cases h2 : i = t.length
      · subst h2; simp
      · rw [List.getElem?_eq_none (by simp; omega)]
  exact e
theorem nodup_get {α : Type} {l : List α} (h : l.Nodup) {i j : Nat} {x : α} (hi : l[i]? = some x) (hj : l[j]? = some x) : i = j := by
  obtain ⟨h1, e1⟩ := List.getElem?_eq_some_iff.1 hi
  obtain ⟨h2, e2⟩ := List.getElem?_eq_some_iff.1 hj
  rcases Nat.lt_trichotomy i j with h3 | h3 | h3
  · have := List.pairwise_iff_getElem.1 h i j h1 h2 h3
    rw [e1, e2] at this; exact absurd rfl this
  · exact h3
  · have := List.pairwise_iff_getElem.1 h j i h2 h1 h3
    rw [e1, e2] at this; exact absurd rfl this
theorem ok_grow {t : List Nd} {pre : List (List UInt8)} (h : Ok t pre) {a : Nat} {p : List UInt8} (ha : pre[a]? = some p) {c : UInt8} (hc : edg (nod t a).es c = none) : Ok (grow t a c) (pre ++ [p ++ [c]]) := by
  have hal : a < t.length := by rw [h.len]; exact (List.getElem?_eq_some_iff.1 ha).1
  have hno := edg_none.1 hc
  have hnew : p ++ [c] ∉ pre := fun hm => by
    obtain ⟨k, hk1, hk2⟩ := List.getElem_of_mem hm
    have := (h.ed a p ha c (k : Int)).2 ⟨by omega, by rw [Int.toNat_natCast, List.getElem?_eq_getElem hk1, hk2]⟩
    exact hno _ this rfl
  have hp : p ∈ pre := List.mem_of_getElem? ha
  refine ⟨by simp [grow, h.len], ?_, ?_, ?_, ?_, ?_, ?_⟩
  · rw [List.getElem?_append_left (by rw [← h.len]; omega)]; exact h.zero
  · rw [List.nodup_append]
    refine ⟨h.nd, by simp, ?_⟩
    intro x hx y hy
    obtain rfl : y = p ++ [c] := by simpa using hy
    intro e; subst e; exact hnew hx
  · intro q d hm
    rcases List.mem_append.1 hm with hm | hm
    · exact List.mem_append.2 (.inl (h.cl q d hm))
    · obtain ⟨h1, h2⟩ := List.append_inj' (List.mem_singleton.1 hm) rfl
      rw [h1]; exact List.mem_append.2 (.inl hp)
  · intro i q hi d k
    by_cases hi1 : i < pre.length
    · rw [List.getElem?_append_left hi1] at hi
      have key : (0 ≤ k ∧ (pre ++ [p ++ [c]])[k.toNat]? = some (q ++ [d])) ↔ ((0 ≤ k ∧ pre[k.toNat]? = some (q ++ [d])) ∨ (k = pre.length ∧ p ++ [c] = q ++ [d])) := by
        by_cases hk : k.toNat < pre.length
        · rw [List.getElem?_append_left hk]
          constructor
          · exact .inl
          · rintro (e | ⟨e, _⟩)
            · exact e
            · omega
        · rw [List.getElem?_append_right (by omega)]
          by_cases hk2 : k.toNat = pre.length
          · rw [hk2]
            simp only [Nat.sub_self, List.getElem?_cons_zero, Option.some.injEq]
            constructor
            · rintro ⟨h1, h2⟩; exact .inr ⟨by omega, h2⟩
            · rintro (⟨h1, h2⟩ | ⟨h1, h2⟩)
              · simp at h2
              · exact ⟨by omega, h2⟩
          · constructor
            · rintro ⟨h1, h2⟩
              rw [List.getElem?_eq_none (by simp; omega)] at h2; cases h2
            · rintro (⟨h1, h2⟩ | ⟨h1, h2⟩)
              · rw [List.getElem?_eq_none (by omega)] at h2; cases h2
              · omega
      rw [key]
      by_cases e : i = a
      · subst e
        obtain rfl : q = p := by rw [ha] at hi; exact (Option.some.inj hi).symm
        rw [nod_grow_same c hal]
        show (d, k) ∈ ins _ _ _ ↔ _
        rw [ins_mem, h.ed i q hi d k]
        constructor
        · rintro (e | e)
          · obtain ⟨rfl, rfl⟩ := Prod.mk.inj e
            exact .inr ⟨by rw [h.len], rfl⟩
          · exact .inl e
        · rintro (e | ⟨e1, e2⟩)
          · exact .inr e
          · left
            have := (List.append_inj' e2 rfl).2
            obtain rfl : c = d := by simpa using this
            rw [e1, h.len]
      · rw [nod_grow_other c hal e, h.ed i q hi d k]
        constructor
        · exact .inl
        · rintro (e1 | ⟨_, e2⟩)
          · exact e1
          · obtain ⟨e3, _⟩ := List.append_inj' e2 rfl
            subst e3
            exact absurd (nodup_get h.nd hi ha) e
    · have hi2 : i = pre.length := by
        rcases Nat.lt_or_ge pre.length i with h3 | h3
        · rw [List.getElem?_eq_none (by simp; omega)] at hi; cases hi
        · omega
      subst hi2
      rw [List.getElem?_append_right (Nat.le_refl _)] at hi
      obtain rfl : p ++ [c] = q := by simpa using hi
      have e : pre.length ≠ a := by rw [← h.len]; omega
      rw [nod_grow_other c hal e]
      have : nod t pre.length = ⟨[], -1⟩ := by rw [nod, List.getElem?_eq_none (by rw [h.len]; exact Nat.le_refl _)]; rfl
      rw [this]
      constructor
      · intro h; simp at h
      · rintro ⟨h0, h1⟩
        exfalso
        have hm := List.mem_of_getElem? h1
        rcases List.mem_append.1 hm with hm | hm
        · exact hnew (h.cl _ _ hm)
        · have := congrArg List.length (List.mem_singleton.1 hm)
          simp at this
  · intro i
    by_cases e : i = a
    · subst e; rw [nod_grow_same c hal]; exact ins_rises (h.so i) hno _
    · rw [nod_grow_other c hal e]; exact h.so i
  · intro i e he
    by_cases e' : i = a
    · subst e'
      rw [nod_grow_same c hal] at he
      rcases (ins_mem _ _ _ _).1 he with he | he
      · rw [he]; show (i : Int) < (t.length : Int); omega
      · exact h.up i e he
    · rw [nod_grow_other c hal e'] at he; exact h.up i e he
theorem wd_grow {t : List Nd} {a : Nat} (c : UInt8) (ha : a < t.length) (i : Nat) : (nod (grow t a c) i).wd = (nod t i).wd := by
  by_cases e : i = a
  · subst e; rw [nod_grow_same c ha]
  · rw [nod_grow_other c ha e]

/-- a way that is laid -/
theorem lay_ok : ∀ (s : List UInt8) (t : List Nd) (pre : List (List UInt8)) (a : Nat) (p : List UInt8), Ok t pre → pre[a]? = some p →
    ∃ pre', Ok (lay t a s).1 pre' ∧ pre <+: pre' ∧ pre'[(lay t a s).2]? = some (p ++ s) ∧ (∀ q, q ∈ pre' ↔ (q ∈ pre ∨ ∃ m, m ≤ s.length ∧ q = p ++ s.take m)) ∧ (∀ i, (nod (lay t a s).1 i).wd = (nod t i).wd) ∧ t.length ≤ (lay t a s).1.length ∧ (lay t a s).1.length ≤ t.length + s.length
  | [], t, pre, a, p, h, ha => by
    refine ⟨pre, h, List.prefix_rfl, by simpa [lay] using ha, fun q => ⟨.inl, ?_⟩, fun _ => rfl, Nat.le_refl _, Nat.le_refl _⟩
    rintro (e | ⟨m, _, e⟩)
    · exact e
    · rw [e]; simp; exact List.mem_of_getElem? ha
  | c :: s, t, pre, a, p, h, ha => by
    have hal : a < t.length := by rw [h.len]; exact (List.getElem?_eq_some_iff.1 ha).1
    cases hc : edg (nod t a).es c with
    | some k =>
      obtain ⟨hk0, hk⟩ := (h.ed a p ha c k).1 ((edg_mem (h.so a) c k).1 hc)
      obtain ⟨pre', i1, i2, i3, i4, i5, i6, i7⟩ := lay_ok s t pre k.toNat (p ++ [c]) h hk
      simp only [lay, hc]
      refine ⟨pre', i1, i2, by simpa using i3, fun q => ?_, i5, i6, by simp; omega⟩
      rw [i4]
      constructor
      · rintro (e | ⟨m, hm, e⟩)
        · exact .inl e
        · exact .inr ⟨m + 1, by simp; omega, by simpa using e⟩
      · rintro (e | ⟨m, hm, e⟩)
        · exact .inl e
        · cases m with
          | zero => left; rw [e]; simp; exact List.mem_of_getElem? ha
          | succ m => exact .inr ⟨m, by simp at hm; omega, by simpa using e⟩
    | none =>
      have hg := ok_grow h ha hc
      have hk : (pre ++ [p ++ [c]])[t.length]? = some (p ++ [c]) := by rw [List.getElem?_append_right (by rw [h.len]; exact Nat.le_refl _), h.len]; simp
      obtain ⟨pre', i1, i2, i3, i4, i5, i6, i7⟩ := lay_ok s (grow t a c) (pre ++ [p ++ [c]]) t.length (p ++ [c]) hg hk
      simp only [lay, hc]
      have hgl : (grow t a c).length = t.length + 1 := by simp [grow]
      refine ⟨pre', i1, (List.prefix_append _ _).trans i2, by simpa using i3, fun q => ?_, fun i => (i5 i).trans (wd_grow c hal i), by omega, by simp; omega⟩
      rw [i4]
      constructor
      · rintro (e | ⟨m, hm, e⟩)
        · rcases List.mem_append.1 e with e | e
          · exact .inl e
          · exact .inr ⟨1, by simp, by simpa using e⟩
        · exact .inr ⟨m + 1, by simp; omega, by simpa using e⟩
      · rintro (e | ⟨m, hm, e⟩)
        · exact .inl (List.mem_append.2 (.inl e))
        · cases m with
          | zero => left; rw [e]; simp; exact List.mem_of_getElem? ha
          | succ m => exact .inr ⟨m, by simp at hm; omega, by simpa using e⟩
end Go.Proofs.YtfjjdicgekgbeaaGreatDoor.Tri

/- Tries in plain Lean: words that were built in, and what is found of them. -/
namespace Go.Proofs.YtfjjdicgekgbeaaGreatDoor.Tri
open Go
set_option linter.unusedVariables false

theorem nod_set_same {t : List Nd} {a : Nat} (x : Nd) (ha : a < t.length) : nod (t.set a x) a = x := by
  have e : (t.set a x)[a]?.getD ⟨[], -1⟩ = x := by rw [List.getElem?_set_self ha]; rfl
  exact e
theorem nod_set_other {t : List Nd} {a i : Nat} (x : Nd) (h : i ≠ a) : nod (t.set a x) i = nod t i := by
  have e : (t.set a x)[i]?.getD ⟨[], -1⟩ = t[i]?.getD ⟨[], -1⟩ := by rw [List.getElem?_set_ne (by omega)]
  exact e
theorem mark_len (t : List Nd) (a : Nat) (k : Int) : (mark t a k).length = t.length := by unfold mark; split <;> simp
theorem mark_es {t : List Nd} {a : Nat} (k : Int) (ha : a < t.length) (i : Nat) : (nod (mark t a k) i).es = (nod t i).es := by
  unfold mark
  split
  · by_cases e : i = a
    · subst e; rw [nod_set_same _ ha]
    · rw [nod_set_other _ e]
  · rfl
theorem mark_wd {t : List Nd} {a : Nat} (k : Int) (ha : a < t.length) (i : Nat) : (nod (mark t a k) i).wd = if i = a ∧ (nod t a).wd = -1 then k else (nod t i).wd := by
  unfold mark
  by_cases h : (nod t a).wd = -1
  · rw [if_pos h]
    by_cases e : i = a
    · subst e; rw [nod_set_same _ ha, if_pos ⟨rfl, h⟩]
    · rw [nod_set_other _ e, if_neg (by simp [e])]
  · rw [if_neg h, if_neg (by simp [h])]
theorem ok_mark {t : List Nd} {pre : List (List UInt8)} (h : Ok t pre) {a : Nat} (ha : a < t.length) (k : Int) : Ok (mark t a k) pre := by
  refine ⟨(mark_len t a k).trans h.len, h.zero, h.nd, h.cl, fun i p hi c j => ?_, fun i => ?_, fun i e he => ?_⟩
  · rw [mark_es k ha]; exact h.ed i p hi c j
  · rw [mark_es k ha]; exact h.so i
  · rw [mark_es k ha] at he; exact h.up i e he

def wo (l : List (List UInt8)) (j : Nat) : List UInt8 := l[j]?.getD []
/-- which of the first n words is the first one that is so -/
def fw (l : List (List UInt8)) : Nat → List UInt8 → Int
  | 0, _ => -1
  | n + 1, p => if fw l n p = -1 then (if wo l n = p then (n : Int) else -1) else fw l n p
theorem fw_spec (l : List (List UInt8)) (p : List UInt8) : ∀ n, (fw l n p = -1 ∧ ∀ j, j < n → wo l j ≠ p) ∨ (∃ j : Nat, fw l n p = j ∧ j < n ∧ wo l j = p ∧ ∀ i, i < j → wo l i ≠ p)
  | 0 => .inl ⟨rfl, fun j hj => by omega⟩
  | n + 1 => by
    rcases fw_spec l p n with ⟨h1, h2⟩ | ⟨j, h1, h2, h3, h4⟩
    · by_cases e : wo l n = p
      · exact .inr ⟨n, by simp [fw, h1, e], by omega, e, h2⟩
      · refine .inl ⟨by simp [fw, h1, e], fun j hj => ?_⟩
        rcases Nat.lt_or_ge j n with h | h
        · exact h2 j h
        · obtain rfl : j = n := by omega
          exact e
    · refine .inr ⟨j, ?_, by omega, h3, h4⟩
      have : ¬ fw l n p = -1 := by omega
      simp only [fw, if_neg this]; exact h1
theorem fw_ge (l : List (List UInt8)) (n : Nat) (p : List UInt8) : -1 ≤ fw l n p := by
  rcases fw_spec l p n with ⟨h1, _⟩ | ⟨j, h1, _⟩ <;> omega
theorem fw_iff (l : List (List UInt8)) (n : Nat) (p : List UInt8) : 0 ≤ fw l n p ↔ ∃ j, j < n ∧ wo l j = p := by
  rcases fw_spec l p n with ⟨h1, h2⟩ | ⟨j, h1, h2, h3, _⟩
  · constructor
    · intro h; omega
    · rintro ⟨j, hj, e⟩; exact absurd e (h2 j hj)
  · exact ⟨fun _ => ⟨j, h2, h3⟩, fun _ => by omega⟩
def sz (l : List (List UInt8)) : Nat → Nat
  | 0 => 1
  | n + 1 => sz l n + (wo l n).length
theorem bld_succ (l : List (List UInt8)) (n : Nat) : bldN l (n + 1) = addw (bldN l n) (wo l n) n := rfl

theorem bld_ok (l : List (List UInt8)) : ∀ n, ∃ pre, Ok (bldN l n) pre ∧ (∀ q, q ∈ pre ↔ (q = [] ∨ ∃ j m, j < n ∧ m ≤ (wo l j).length ∧ q = (wo l j).take m)) ∧ (∀ i p, pre[i]? = some p → (nod (bldN l n) i).wd = fw l n p) ∧ (bldN l n).length ≤ sz l n
  | 0 => by
    refine ⟨[[]], ok_start, fun q => ⟨fun h => .inl (by simpa using h), ?_⟩, fun i p h => ?_, Nat.le_refl _⟩
    · rintro (e | ⟨j, m, hj, _⟩)
      · simp [e]
      · omega
    · show (nod start i).wd = -1
      rcases Nat.eq_zero_or_pos i with h0 | h0
      · subst h0; rfl
      · simp [start, nod, show i ≠ 0 by omega]
  | n + 1 => by
    obtain ⟨pre, o1, o2, o3, o4⟩ := bld_ok l n
    obtain ⟨pre', i1, i2, i3, i4, i5, i6, i7⟩ := lay_ok (wo l n) (bldN l n) pre 0 [] o1 o1.zero
    rw [bld_succ]
    unfold addw
    generalize hL : lay (bldN l n) 0 (wo l n) = L at *
    obtain ⟨t', a⟩ := L
    simp only at i1 i3 i5 i6 i7 ⊢
    have ha : a < t'.length := by rw [i1.len]; exact (List.getElem?_eq_some_iff.1 i3).1
    refine ⟨pre', ok_mark i1 ha _, fun q => ?_, fun i p hp => ?_, ?_⟩
    · rw [i4, o2]
      constructor
      · rintro ((e | ⟨j, m, hj, hm, e⟩) | ⟨m, hm, e⟩)
        · exact .inl e
        · exact .inr ⟨j, m, by omega, hm, e⟩
        · exact .inr ⟨n, m, by omega, hm, by simpa using e⟩
      · rintro (e | ⟨j, m, hj, hm, e⟩)
        · exact .inl (.inl e)
        · rcases Nat.lt_or_ge j n with h | h
          · exact .inl (.inr ⟨j, m, h, hm, e⟩)
          · obtain rfl : j = n := by omega
            exact .inr ⟨m, hm, by simpa using e⟩
    · have hwa : ∀ i p, pre'[i]? = some p → (nod t' i).wd = fw l n p := fun i p hp => by
        rw [i5 i]
        by_cases hi : i < pre.length
        · have : pre[i]? = some p := by
            obtain ⟨r, rfl⟩ := i2
            rw [List.getElem?_append_left hi] at hp; exact hp
          exact o3 i p this
        · have hn : (nod (bldN l n) i).wd = -1 := by
            have e : (bldN l n)[i]?.getD ⟨[], -1⟩ = ⟨[], -1⟩ := by rw [List.getElem?_eq_none (by rw [o1.len]; omega)]; rfl
            show ((bldN l n)[i]?.getD ⟨[], -1⟩).wd = -1
            rw [e]
          rw [hn]
          rcases fw_spec l p n with ⟨h1, _⟩ | ⟨j, h1, h2, h3, _⟩
          · exact h1.symm
          · exfalso
            have hm : p ∈ pre := (o2 p).2 (.inr ⟨j, (wo l j).length, h2, Nat.le_refl _, by rw [List.take_length]; exact h3.symm⟩)
            obtain ⟨i', hi', e'⟩ := List.getElem_of_mem hm
            have h5 : pre'[i']? = some p := by
              obtain ⟨r, rfl⟩ := i2
              rw [List.getElem?_append_left hi', List.getElem?_eq_getElem hi', e']
            have := nodup_get i1.nd hp h5
            omega
      rw [mark_wd _ ha, hwa a _ i3]
      simp only [List.nil_append]
      by_cases e : i = a
      · subst e
        obtain rfl : p = wo l n := by rw [i3] at hp; simpa using hp.symm
        by_cases h : fw l n (wo l n) = -1
        · rw [if_pos ⟨rfl, h⟩]; simp [fw, h]
        · rw [if_neg (by simp [h]), hwa i _ hp]; simp [fw, h]
      · rw [if_neg (by simp [e]), hwa i _ hp]
        have hne : wo l n ≠ p := fun h => by
          subst h
          exact e (nodup_get i1.nd hp (by simpa using i3))
        by_cases h : fw l n p = -1
        · simp [fw, h, hne]
        · simp [fw, h]
    · rw [mark_len]; simp only [sz]; omega

theorem pre_cl {t : List Nd} {pre : List (List UInt8)} (h : Ok t pre) (p : List UInt8) : ∀ (n : Nat) (s : List UInt8), s.length = n → p ++ s ∈ pre → p ∈ pre
  | 0, s, hs, hm => by
    obtain rfl := List.length_eq_zero_iff.1 hs
    simpa using hm
  | n + 1, s, hs, hm => by
    have hne : s ≠ [] := fun e => by subst e; simp at hs
    have e := List.dropLast_concat_getLast hne
    rw [← e, ← List.append_assoc] at hm
    exact pre_cl h p n s.dropLast (by simp [hs]) (h.cl _ _ hm)
theorem go_iff {t : List Nd} {pre : List (List UInt8)} (h : Ok t pre) : ∀ (s : List UInt8) (a : Nat) (p : List UInt8) (k : Nat), pre[a]? = some p → (go t a s = some k ↔ pre[k]? = some (p ++ s))
  | [], a, p, k, ha => by
    simp only [go, Option.some.injEq, List.append_nil]
    constructor
    · rintro rfl; exact ha
    · intro hk; exact nodup_get h.nd ha hk
  | c :: s, a, p, k, ha => by
    cases hc : edg (nod t a).es c with
    | none =>
      simp only [go, hc]
      constructor
      · intro e; cases e
      · intro hk
        exfalso
        have hm := List.mem_of_getElem? hk
        rw [show p ++ c :: s = (p ++ [c]) ++ s by simp] at hm
        have := pre_cl h (p ++ [c]) s.length s rfl hm
        obtain ⟨i, hi, e⟩ := List.getElem_of_mem this
        have := (h.ed a p ha c (i : Int)).2 ⟨by omega, by rw [Int.toNat_natCast, List.getElem?_eq_getElem hi, e]⟩
        exact edg_none.1 hc _ this rfl
    | some j =>
      obtain ⟨hj0, hj⟩ := (h.ed a p ha c j).1 ((edg_mem (h.so a) c j).1 hc)
      simp only [go, hc]
      rw [go_iff h s j.toNat (p ++ [c]) k hj]
      simp
/-- the word of a text, or -1 -/
def findT (t : List Nd) (s : List UInt8) : Int := match go t 0 s with
  | none => -1
  | some k => (nod t k).wd
theorem find_bld (l : List (List UInt8)) (n : Nat) (s : List UInt8) : findT (bldN l n) s = fw l n s := by
  obtain ⟨pre, o1, o2, o3, _⟩ := bld_ok l n
  unfold findT
  cases hg : go (bldN l n) 0 s with
  | some k => exact o3 k s (by simpa using (go_iff o1 s 0 [] k o1.zero).1 hg)
  | none =>
    rcases fw_spec l s n with ⟨h1, _⟩ | ⟨j, h1, h2, h3, _⟩
    · exact h1.symm
    · exfalso
      have hm : s ∈ pre := (o2 s).2 (.inr ⟨j, (wo l j).length, h2, Nat.le_refl _, by rw [List.take_length]; exact h3.symm⟩)
      obtain ⟨i, hi, e⟩ := List.getElem_of_mem hm
      have := (go_iff o1 s 0 [] i o1.zero).2 (by rw [List.getElem?_eq_getElem hi, e]; rfl)
      rw [hg] at this; cases this
/-- the longest one of the first n beginnings -/
def lgT (f : Nat → Int) : Nat → Int × Nat
  | 0 => (f 0, 0)
  | n + 1 => if f (n + 1) = -1 then lgT f n else (f (n + 1), n + 1)
theorem lgT_spec (f : Nat → Int) : ∀ N, (lgT f N).2 ≤ N ∧ (lgT f N).1 = f (lgT f N).2 ∧ (∀ m, (lgT f N).2 < m → m ≤ N → f m = -1) ∧ (f (lgT f N).2 = -1 → (lgT f N).2 = 0)
  | 0 => ⟨Nat.le_refl _, rfl, fun m h1 h2 => by simp [lgT] at h1; omega, fun _ => rfl⟩
  | n + 1 => by
    obtain ⟨h1, h2, h3, h4⟩ := lgT_spec f n
    by_cases h : f (n + 1) = -1
    · simp only [lgT, if_pos h]
      refine ⟨by omega, h2, fun m hm1 hm2 => ?_, h4⟩
      rcases Nat.lt_or_ge m (n + 1) with hx | hx
      · exact h3 m hm1 (by omega)
      · obtain rfl : m = n + 1 := by omega
        exact h
    · simp only [lgT, if_neg h]
      exact ⟨Nat.le_refl _, trivial, fun m hm1 hm2 => by omega, fun e => absurd e h⟩
theorem lgT_cut {f : Nat → Int} {N M : Nat} (h : M ≤ N) (hf : ∀ m, M < m → m ≤ N → f m = -1) : lgT f N = lgT f M := by
  induction N with
  | zero => obtain rfl : M = 0 := by omega
            rfl
  | succ n ih =>
    by_cases e : M = n + 1
    · rw [e]
    · simp only [lgT]
      rw [if_pos (hf (n + 1) (by omega) (Nat.le_refl _))]
      exact ih (by omega) (fun m h1 h2 => hf m h1 (by omega))
theorem lgT_congr {f g : Nat → Int} : ∀ {N : Nat}, (∀ m, m ≤ N → f m = g m) → lgT f N = lgT g N
  | 0, h => by simp [lgT, h 0 (Nat.le_refl _)]
  | n + 1, h => by
    have ih := lgT_congr (f := f) (g := g) (N := n) (fun m hm => h m (by omega))
    simp only [lgT, ih, h (n + 1) (Nat.le_refl _)]
theorem lgT_uniq {f : Nat → Int} {N n : Nat} (h1 : n ≤ N) (h3 : ∀ m, n < m → m ≤ N → f m = -1) (h4 : f n = -1 → n = 0) : lgT f N = (f n, n) := by
  rw [lgT_cut h1 h3]
  cases n with
  | zero => rfl
  | succ n => simp only [lgT]; rw [if_neg (fun e => by have := h4 e; omega)]
def longT (t : List Nd) (s : List UInt8) : Int × Nat := lgT (fun n => findT t (s.take n)) s.length
theorem go_none_more {t : List Nd} {s : List UInt8} {m n : Nat} (h : go t 0 (s.take m) = none) (hm : m ≤ n) : go t 0 (s.take n) = none := by
  have : s.take n = s.take m ++ (s.take n).drop m := by
    have := List.take_append_drop m (s.take n)
    rw [List.take_take, Nat.min_eq_left hm] at this
    exact this.symm
  rw [this, go_append, h]; rfl
theorem find_none {t : List Nd} {s : List UInt8} (h : go t 0 s = none) : findT t s = -1 := by unfold findT; rw [h]
/-- who goes along a text, up to where no edge leads on, has seen all -/
theorem long_at {t : List Nd} {s : List UInt8} {m : Nat} (hm : m ≤ s.length) (h : m = s.length ∨ go t 0 (s.take (m + 1)) = none) : longT t s = lgT (fun n => findT t (s.take n)) m := by
  unfold longT
  refine lgT_cut hm fun k h1 h2 => ?_
  rcases h with h | h
  · omega
  · exact find_none (go_none_more h (by omega))

/-- two lists without twins that have the same are as long as each other -/
theorem nodup_le {α : Type} [BEq α] [LawfulBEq α] : ∀ (a b : List α), a.Nodup → (∀ x, x ∈ a → x ∈ b) → a.length ≤ b.length
  | [], b, _, _ => by simp
  | x :: a, b, h, hs => by
    obtain ⟨h1, h2⟩ := List.nodup_cons.1 h
    have hx : x ∈ b := hs x (by simp)
    have := nodup_le a (b.erase x) h2 (fun y hy => by
      have hyx : y ≠ x := fun e => by subst e; exact h1 hy
      exact (List.mem_erase_of_ne hyx).2 (hs y (by simp [hy])))
    have hl := List.length_erase_of_mem hx
    have hp : 0 < b.length := List.length_pos_of_mem hx
    simp only [List.length_cons]
    omega
theorem len_same {l m : List (List UInt8)} {n : Nat} (h : ∀ p, (∃ j, j < n ∧ wo l j = p) ↔ (∃ j, j < n ∧ wo m j = p)) : (bldN l n).length = (bldN m n).length := by
  have key : ∀ {l m : List (List UInt8)}, (∀ p, (∃ j, j < n ∧ wo l j = p) → (∃ j, j < n ∧ wo m j = p)) → (bldN l n).length ≤ (bldN m n).length := by
    intro l m h
    obtain ⟨pre, o1, o2, _, _⟩ := bld_ok l n
    obtain ⟨pre', p1, p2, _, _⟩ := bld_ok m n
    rw [o1.len, p1.len]
    refine nodup_le _ _ o1.nd fun x hx => ?_
    rcases (o2 x).1 hx with e | ⟨j, k, hj, hk, e⟩
    · exact (p2 x).2 (.inl e)
    · obtain ⟨i, hi, e2⟩ := h _ ⟨j, hj, rfl⟩
      exact (p2 x).2 (.inr ⟨i, k, hi, by rw [e2]; exact hk, by rw [e2]; exact e⟩)
  exact Nat.le_antisymm (key fun p => (h p).1) (key fun p => (h p).2)
end Go.Proofs.YtfjjdicgekgbeaaGreatDoor.Tri

/- Tries in memory; the contracts of package trie: place. -/
namespace Go.Proofs.YtfjjdicgekgbeaaGreatDoor.Tri
open Go Go.RowKit
set_option linter.unusedVariables false

theorem hideH {p : Prop} (h : p) : Hid p := h
theorem bthen {w a b : World} (h : Below w.heap.size w a) (k : Below a.heap.size a b) : Below w.heap.size w b := h.trans (k.mono h.size)
theorem cell_lt {w : World} {b o : Nat} {v : Value} (h : w.cell? ⟨b, o, none⟩ = some v) : b < w.heap.size := by
  unfold World.cell? at h
  simp only at h
  rcases Nat.lt_or_ge b w.heap.size with h1 | h1
  · exact h1
  · rw [Array.getElem?_eq_none h1] at h; cases h
theorem cell_on {w w' : World} {b o : Nat} {x : Value} (h : w.cell? ⟨b, o, none⟩ = some x) (hb : Below w.heap.size w w') : w'.cell? ⟨b, o, none⟩ = some x := by
  rw [hb.cell (p := ⟨b, o, none⟩) (cell_lt h)]; exact h
theorem heap_on {w w' : World} {b : Nat} {o : Obj} (h : w.heap[b]? = some o) (hb : Below w.heap.size w w') : w'.heap[b]? = some o := (hb.block b (Array.getElem?_eq_some_iff.1 h).1).trans h
theorem beq_cases (a b : Int) : (a == b) = true ∧ a = b ∨ (a == b) = false ∧ a ≠ b := by
  by_cases h : a = b
  · exact .inl ⟨by simp [h], h⟩
  · exact .inr ⟨by simp [h], h⟩
theorem ret_bool {a b : Bool} (h : a = b) : Ending.returned (.bool a) = .returned (.bool b) := by rw [h]
theorem ret_int {k : IntKind} {a b : Int} (h : a = b) : Ending.returned (.int k a) = .returned (.int k b) := by rw [h]

/-- an edge of a list, by its place -/
def eC (l : List (UInt8 × Int)) (j : Nat) : UInt8 := (l[j]?.getD (0, 0)).1
def eT (l : List (UInt8 × Int)) (j : Nat) : Int := (l[j]?.getD (0, 0)).2
theorem eC_at {l : List (UInt8 × Int)} {j : Nat} (h : j < l.length) : l[j] = (eC l j, eT l j) := by
  unfold eC eT; rw [List.getElem?_eq_getElem h]; rfl
/-- two cells each, in a row -/
def EdL (w : World) (a : Option Addr) (l : List (UInt8 × Int)) : Prop := l.length = 0 ∨ ∃ b off, a = some ⟨b, off, none⟩ ∧ ∀ j, j < l.length → w.cell? ⟨b, off + j * 2, none⟩ = some (.int .u8 ((eC l j).toNat : Int)) ∧ w.cell? ⟨b, off + j * 2 + 1, none⟩ = some (.int .i64 (eT l j))
theorem EdL.on {w w' : World} {a : Option Addr} {l : List (UInt8 × Int)} (p : EdL w a l) (hb : Below w.heap.size w w') : EdL w' a l := by
  rcases p with p | ⟨b, off, h1, h2⟩
  · exact .inl p
  · exact .inr ⟨b, off, h1, fun j hj => ⟨cell_on (h2 j hj).1 hb, cell_on (h2 j hj).2 hb⟩⟩

theorem isNaN_c (c : Int) (w : World) : Calls Tryz.prog 112 #[.int .u8 c] w fun e w' => e = .returned (.bool false) ∧ w' = w := by
  go_enter Tryz.func112, Tryz.ntmps112
  go_wp2
  go_ret
  exact ⟨ret_bool (by simp), rfl⟩
/-- how two bytes stand -/
def cmpB (a b : UInt8) : Int := if a < b then -1 else if b < a then 1 else 0
theorem cmp_c (a b : UInt8) (w : World) : Calls Tryz.prog 69 #[.int .u8 (a.toNat : Int), .int .u8 (b.toNat : Int)] w fun e w' => e = .returned (.int .i64 (cmpB a b)) ∧ w' = w := by
  have ha := a.toNat_lt
  have hb := b.toNat_lt
  by_cases h : a < b
  · have h' : (a.toNat : Int) < (b.toNat : Int) := by have := UInt8.lt_iff_toNat_lt.1 h; omega
    have HE : Hid (cmpB a b = -1) := by show _ = _; unfold cmpB; rw [if_pos h]
    clear h
    go_enter Tryz.func69, Tryz.ntmps69
    go_wp2_with (go_at_call 112; refine (isNaN_c _ _).mono ?_; rintro e w' ⟨rfl, rfl⟩)
    go_ret
    exact ⟨ret_int HE.out.symm, rfl⟩
  · by_cases k : b < a
    · have h' : ¬ (a.toNat : Int) < (b.toNat : Int) := by have := mt UInt8.lt_iff_toNat_lt.2 h; omega
      have k' : (b.toNat : Int) < (a.toNat : Int) := by have := UInt8.lt_iff_toNat_lt.1 k; omega
      have HE : Hid (cmpB a b = 1) := by show _ = _; unfold cmpB; rw [if_neg h, if_pos k]
      clear h k
      go_enter Tryz.func69, Tryz.ntmps69
      go_wp2_with (go_at_call 112; refine (isNaN_c _ _).mono ?_; rintro e w' ⟨rfl, rfl⟩)
      go_ret
      exact ⟨ret_int HE.out.symm, rfl⟩
    · have h' : ¬ (a.toNat : Int) < (b.toNat : Int) := by have := mt UInt8.lt_iff_toNat_lt.2 h; omega
      have k' : ¬ (b.toNat : Int) < (a.toNat : Int) := by have := mt UInt8.lt_iff_toNat_lt.2 k; omega
      have HE : Hid (cmpB a b = 0) := by show _ = _; unfold cmpB; rw [if_neg h, if_neg k]
      clear h k
      go_enter Tryz.func69, Tryz.ntmps69
      go_wp2_with (go_at_call 112; refine (isNaN_c _ _).mono ?_; rintro e w' ⟨rfl, rfl⟩)
      go_ret
      exact ⟨ret_int HE.out.symm, rfl⟩
theorem place1_c (a b : UInt8) (k : Int) (w : World) : Calls Tryz.prog 68 #[.agg #[.int .u8 (a.toNat : Int), .int .i64 k], .int .u8 (b.toNat : Int)] w fun e w' => e = .returned (.int .i64 (cmpB a b)) ∧ Below w.heap.size w w' := by
  have hb := hideH ((Below.refl _ w).alloc (Nat.le_refl _) (.cells #[.int .u8 (a.toNat : Int), .int .i64 k] 45))
  have HC := hideH (fun v => cmp_c a b v)
  go_enter Tryz.func68, Tryz.ntmps68
  go_wp2_with (go_at_call 69; refine (HC.out _).mono ?_; rintro e w2 ⟨rfl, rfl⟩)
  go_ret
  exact ⟨rfl, hb.out⟩

/-- edges that rise are few -/
theorem rises_low : ∀ (l : List (UInt8 × Int)) (m : Nat), Rises l → (∀ e ∈ l, m ≤ e.1.toNat) → l.length + m ≤ 256 ∨ l = []
  | [], m, _, _ => .inr rfl
  | a :: r, m, h, hm => by
    obtain ⟨h1, h2⟩ := List.pairwise_cons.1 h
    left
    have ha := hm a (by simp)
    have ha2 := a.1.toNat_lt
    rcases rises_low r (a.1.toNat + 1) h2 (fun e he => by have := UInt8.lt_iff_toNat_lt.1 (h1 e he); omega) with h3 | h3
    · simp only [List.length_cons]; omega
    · subst h3; simp only [List.length_cons, List.length_nil]; omega
theorem rises_len {l : List (UInt8 × Int)} (h : Rises l) : l.length ≤ 256 := by
  rcases rises_low l 0 h (fun _ _ => Nat.zero_le _) with h1 | h1
  · omega
  · subst h1; simp
theorem rises_at {l : List (UInt8 × Int)} (h : Rises l) {i j : Nat} (hij : i < j) (hj : j < l.length) : eC l i < eC l j := by
  have := List.pairwise_iff_getElem.1 h i j (by omega) hj hij
  rw [eC_at, eC_at hj] at this
  exact this
theorem cnt_at {l : List (UInt8 × Int)} {c : UInt8} {i : Nat} (hi : i ≤ l.length) (h1 : ∀ t, t < i → eC l t < c) (h2 : ∀ t, i ≤ t → t < l.length → ¬ eC l t < c) : cnt l c = i := by
  unfold cnt
  rw [← List.take_append_drop i l, List.countP_append]
  have e1 : (l.take i).countP (fun e => decide (e.1 < c)) = i := by
    rw [List.countP_eq_length.2 (fun e he => ?_)]
    · simp; omega
    · obtain ⟨t, ht, rfl⟩ := List.getElem_of_mem he
      rw [List.length_take] at ht
      rw [List.getElem_take, eC_at (by omega)]
      exact decide_eq_true (h1 t (by omega))
  have e2 : (l.drop i).countP (fun e => decide (e.1 < c)) = 0 := by
    rw [List.countP_eq_zero]
    intro e he
    obtain ⟨t, ht, rfl⟩ := List.getElem_of_mem he
    rw [List.length_drop] at ht
    rw [List.getElem_drop, eC_at (by omega)]
    simpa using h2 (i + t) (by omega) (by omega)
  rw [e1, e2]; rfl
/-- what place answers -/
def plP (l : List (UInt8 × Int)) (c : UInt8) (w : World) (e : Ending) (w' : World) : Prop := e = .returned (.tuple #[.int .i64 (cnt l c : Int), .bool (edg l c).isSome]) ∧ Below w.heap.size w w'
theorem edg_yes {l : List (UInt8 × Int)} (h : Rises l) {c : UInt8} {i : Nat} (hi : i < l.length) (hc : eC l i = c) : edg l c = some (eT l i) := by
  rw [edg_mem h, ← hc, ← eC_at hi]; exact List.getElem_mem hi
theorem edg_no {l : List (UInt8 × Int)} {c : UInt8} (h : ∀ t, t < l.length → eC l t ≠ c) : edg l c = none := by
  rw [edg_none]
  intro e he
  obtain ⟨t, ht, rfl⟩ := List.getElem_of_mem he
  rw [eC_at ht]
  exact h t ht
theorem cmpB_lt {a b : UInt8} : cmpB a b < 0 ↔ a < b := by
  unfold cmpB
  by_cases h : a < b
  · rw [if_pos h]; simp [h]
  · rw [if_neg h]
    by_cases k : b < a
    · rw [if_pos k]; simp [h]
    · rw [if_neg k]; simp [h]
theorem cmpB_eq {a b : UInt8} : cmpB a b = 0 ↔ a = b := by
  unfold cmpB
  by_cases h : a < b
  · rw [if_pos h]; constructor
    · intro e; cases e
    · intro e; subst e; exact absurd h (UInt8.lt_irrefl _)
  · rw [if_neg h]
    by_cases k : b < a
    · rw [if_pos k]; constructor
      · intro e; cases e
      · intro e; subst e; exact absurd k (UInt8.lt_irrefl _)
    · rw [if_neg k]; constructor
      · intro _
        rw [UInt8.lt_iff_toNat_lt] at h k
        exact UInt8.toNat_inj.1 (by omega)
      · intro _; rfl
set_option maxHeartbeats 8000000 in
theorem Esearch_c (a : Option Addr) (cap : Nat) (l : List (UInt8 × Int)) (c : UInt8) (w : World) (hP : EdL w a l) (hr : Rises l) :
    Calls Tryz.prog 67 #[.slice a l.length cap, .int .u8 (c.toNat : Int), .func (.func 68) #[] #[]] w fun e w' => plP l c w e w' := by
  have HP := hideH hP
  have HR := hideH hr
  have hlen := rises_len hr
  clear hP hr
  have HC := hideH (fun j v => place1_c (eC l j) c (eT l j) v)
  obtain ⟨n, hn⟩ : ∃ n, n = l.length := ⟨_, rfl⟩
  have HN := hideH hn
  rw [← hn] at hlen ⊢
  clear hn
  go_enter Tryz.func67, Tryz.ntmps67
  go_wp2_with fail
  go_loopw [9, 10] (fun x9 x10 wr => ∃ i j : Nat, i ≤ j ∧ j ≤ n ∧ x9 = .int .i64 i ∧ x10 = .int .i64 j ∧ Hid (∀ t, t < i → eC l t < c) ∧ Hid (∀ t, j ≤ t → t < n → ¬ eC l t < c) ∧ Hid (Below w.heap.size w wr)) (fun x9 x10 _ => (intOf x10).toNat - (intOf x9).toNat)
  case atStart => exact ⟨0, n, Nat.zero_le _, Nat.le_refl _, rfl, rfl, fun t ht => by omega, fun t h1 h2 => by omega, Below.refl _ _⟩
  case round =>
    obtain ⟨i, j, hij, hjn, rfl, rfl, HA, HB, HW⟩ := hrel
    by_cases hlt : i < j
    · obtain ⟨h, hh⟩ : ∃ h : Nat, h = (i + j) / 2 := ⟨_, rfl⟩
      have hm1 : i ≤ h := by omega
      have hm2 : h < j := by omega
      have hmid : ((i : Int) + (j : Int)) / 2 = (h : Int) := by omega
      clear hh
      rcases HP.out.on HW.out with h0 | ⟨b, off, hsa, hcs⟩
      · have := HN.out; omega
      obtain ⟨d0, d1⟩ := hcs h (by have := HN.out; omega)
      clear hcs
      have hk0 : decide ((h : Int) < 0) = false := by simp
      have hkn : decide (n ≤ h) = false := by simp; omega
      have hlt2 : (h : Int) < (n : Int) := by omega
      obtain ⟨cz, hcz⟩ : ∃ cz, cz = cmpB (eC l h) c := ⟨_, rfl⟩
      have HC1 := hideH (HC.out h)
      rw [← hcz] at HC1
      have HCZ := hideH hcz
      clear hcz
      by_cases hq : cz < 0
      · have HA2 : Hid (∀ t, t < h + 1 → eC l t < c) := fun t ht => by
          have e : eC l h < c := cmpB_lt.1 (by rw [← HCZ.out]; exact hq)
          rcases Nat.lt_or_ge t h with h1 | h1
          · exact UInt8.lt_trans (rises_at HR.out h1 (by have := HN.out; omega)) e
          · obtain rfl : t = h := by omega
            exact e
        have hqd : decide (cz < 0) = true := decide_eq_true hq
        go_wp2_with (go_at_call 68; refine (HC1.out _).mono ?_; rintro e w1 ⟨rfl, hw1⟩)
        have H1 := hideH (bthen HW.out hw1)
        clear hw1
        try simp only [← hsa]
        go_roundw
        case rel => exact ⟨h + 1, j, by omega, hjn, by go_num, rfl, HA2, HB, H1⟩
        case measure => simp [intOf]; omega
      · have hqd : decide (cz < 0) = false := decide_eq_false hq
        go_wp2_with (go_at_call 68; refine (HC1.out _).mono ?_; rintro e w1 ⟨rfl, hw1⟩)
        have HB2 : Hid (∀ t, h ≤ t → t < n → ¬ eC l t < c) := fun t h1 h2 => by
          have e : ¬ eC l h < c := fun e => by have := cmpB_lt.2 e; rw [← HCZ.out] at this; omega
          rcases Nat.lt_or_ge h t with h3 | h3
          · intro k
            exact e (UInt8.lt_trans (rises_at HR.out h3 (by have := HN.out; omega)) k)
          · obtain rfl : t = h := by omega
            exact e
        have H1 := hideH (bthen HW.out hw1)
        clear hw1
        try simp only [← hsa]
        go_roundw
        case rel => exact ⟨i, h, by omega, by omega, rfl, rfl, HA, HB2, H1⟩
        case measure => simp [intOf]; omega
    · obtain rfl : i = j := by omega
      have HCnt : Hid (cnt l c = i) := cnt_at (by have := HN.out; omega) HA.out (fun t h1 h2 => HB.out t h1 (by have := HN.out; omega))
      by_cases hin : i < n
      · rcases HP.out.on HW.out with h0 | ⟨b, off, hsa, hcs⟩
        · have := HN.out; omega
        obtain ⟨d0, d1⟩ := hcs i (by have := HN.out; omega)
        clear hcs
        have hk0 : decide ((i : Int) < 0) = false := by simp
        have hkn : decide (n ≤ i) = false := by simp; omega
        have hlt2 : (i : Int) < (n : Int) := by omega
        obtain ⟨cz, hcz⟩ : ∃ cz, cz = cmpB (eC l i) c := ⟨_, rfl⟩
        have HC1 := hideH (HC.out i)
        rw [← hcz] at HC1
        have HCZ := hideH hcz
        clear hcz
        rcases beq_cases cz 0 with ⟨q1, q2⟩ | ⟨q1, q2⟩
        · have HQ : Hid (edg l c = some (eT l i)) := edg_yes HR.out (by have := HN.out; omega) (cmpB_eq.1 (by rw [← HCZ.out]; exact q2))
          clear q2
          go_wp2_with (go_at_call 68; refine (HC1.out _).mono ?_; rintro e w1 ⟨rfl, hw1⟩)
          go_ret2
          unfold plP
          exact ⟨by rw [HCnt.out, HQ.out]; rfl, bthen HW.out hw1⟩
        · have HQ : Hid (edg l c = none) := edg_no fun t ht e => by
            rcases Nat.lt_trichotomy t i with h3 | h3 | h3
            · have := HA.out t h3; rw [e] at this; exact absurd this (UInt8.lt_irrefl _)
            · subst h3; exact q2 (by rw [HCZ.out]; exact cmpB_eq.2 e)
            · have h5 := rises_at HR.out h3 ht
              rw [e] at h5
              exact HB.out i (Nat.le_refl _) hin h5
          clear q2
          go_wp2_with (go_at_call 68; refine (HC1.out _).mono ?_; rintro e w1 ⟨rfl, hw1⟩)
          go_ret2
          unfold plP
          exact ⟨by rw [HCnt.out, HQ.out]; rfl, bthen HW.out hw1⟩
      · have hin2 : ¬ ((i : Int) < (n : Int)) := by omega
        have HQ : Hid (edg l c = none) := edg_no fun t ht e => by
          have := HA.out t (by have := HN.out; omega)
          rw [e] at this; exact absurd this (UInt8.lt_irrefl _)
        go_wp2_with fail
        go_ret2
        unfold plP
        exact ⟨by rw [HCnt.out, HQ.out]; rfl, HW.out⟩
theorem place_c (a : Option Addr) (cap : Nat) (l : List (UInt8 × Int)) (c : UInt8) (w : World) (hP : EdL w a l) (hr : Rises l) :
    Calls Tryz.prog 42 #[.slice a l.length cap, .int .u8 (c.toNat : Int)] w fun e w' => plP l c w e w' := by
  have HC := hideH (Esearch_c a cap l c w hP hr)
  have hlen := rises_len hr
  clear hP hr
  unfold plP at HC ⊢
  obtain ⟨B, hB⟩ : ∃ B, B = (edg l c).isSome := ⟨_, rfl⟩
  obtain ⟨C, hC⟩ : ∃ C, C = (cnt l c : Int) := ⟨_, rfl⟩
  rw [← hB, ← hC] at HC ⊢
  clear hB hC
  have hmf : ∀ (fn : Fn) (first cap : Array Value) (w : World), (Instr.makeFunc fn first cap).run Tryz.prog w = .ok (.func fn first cap) w := fun _ _ _ _ => rfl
  go_enter Tryz.func42, Tryz.ntmps42
  go_wp2_with fail
  refine HC.out.mono ?_
  rintro e w1 ⟨rfl, hw1⟩
  have HW := hideH hw1
  clear hw1 HC
  go_wp2_with fail
  go_ret2
  exact ⟨rfl, HW.out⟩
end Go.Proofs.YtfjjdicgekgbeaaGreatDoor.Tri

/- Nodes in memory; the contracts of package trie: rise, leadOn, Check. -/
namespace Go.Proofs.YtfjjdicgekgbeaaGreatDoor.Tri
open Go Go.RowKit
set_option linter.unusedVariables false

/-- two cells each, in a row, the edges of each wherever they lie -/
def TrL (w : World) (a : Option Addr) (t : List Nd) : Prop := t.length = 0 ∨ ∃ b off, a = some ⟨b, off, none⟩ ∧ ∀ j, j < t.length → ∃ ea ec, w.cell? ⟨b, off + j * 2, none⟩ = some (.slice ea (nod t j).es.length ec) ∧ w.cell? ⟨b, off + j * 2 + 1, none⟩ = some (.int .i64 (nod t j).wd) ∧ EdL w ea (nod t j).es
theorem TrL.on {w w' : World} {a : Option Addr} {t : List Nd} (p : TrL w a t) (hb : Below w.heap.size w w') : TrL w' a t := by
  rcases p with p | ⟨b, off, h1, h2⟩
  · exact .inl p
  · exact .inr ⟨b, off, h1, fun j hj => by
      obtain ⟨ea, ec, x1, x2, x3⟩ := h2 j hj
      exact ⟨ea, ec, cell_on x1 hb, cell_on x2 hb, x3.on hb⟩⟩
theorem wrap_nn {n : Int} (h0 : 0 ≤ n) (h1 : n < 9223372036854775808) : IntKind.i64.wrap n = n := by
  have h64 : IntKind.i64.bits = 64 := rfl
  have hsg : IntKind.i64.signed = true := rfl
  unfold IntKind.wrap
  rw [h64, hsg]
  simp only [Bool.true_and]
  rw [Int.emod_eq_of_lt h0 (by omega)]
  simp
  omega
/-- do edges rise? -/
def risB (l : List (UInt8 × Int)) : Bool := (List.range l.length).all fun i => decide (1 ≤ i → eC l (i - 1) < eC l i)
theorem ris_adj {l : List (UInt8 × Int)} (h : ∀ i, 1 ≤ i → i < l.length → eC l (i - 1) < eC l i) : ∀ (j i : Nat), i < j → j < l.length → eC l i < eC l j
  | 0, i, h1, _ => by omega
  | j + 1, i, h1, h2 => by
    have h3 := h (j + 1) (by omega) h2
    simp only [Nat.add_sub_cancel] at h3
    rcases Nat.lt_or_ge i j with h4 | h4
    · exact UInt8.lt_trans (ris_adj h j i h4 (by omega)) h3
    · obtain rfl : i = j := by omega
      exact h3
theorem risB_iff (l : List (UInt8 × Int)) : risB l = true ↔ ∀ i, 1 ≤ i → i < l.length → eC l (i - 1) < eC l i := by
  unfold risB
  simp only [List.all_eq_true, List.mem_range, decide_eq_true_eq]
  exact ⟨fun h i a b => h i b a, fun h i a b => h i b a⟩
theorem risB_rises {l : List (UInt8 × Int)} : risB l = true ↔ Rises l := by
  rw [risB_iff]
  constructor
  · intro h
    unfold Rises
    rw [List.pairwise_iff_getElem]
    intro i j hi hj hij
    rw [eC_at hi, eC_at hj]
    exact ris_adj h j i hij hj
  · intro h i h1 h2
    exact rises_at h (by omega) h2
def riP (P : Bool) (w : World) (e : Ending) (w' : World) : Prop := e = .returned (.bool P) ∧ Below w.heap.size w w'
set_option maxHeartbeats 4000000 in
theorem rise_c (a : Option Addr) (cap : Nat) (l : List (UInt8 × Int)) (w : World) (hl : l.length ≤ maxLen) (hP : EdL w a l) :
    Calls Tryz.prog 81 #[.slice a l.length cap] w fun e w' => riP (risB l) w e w' := by
  have HP := hideH hP
  unfold maxLen at hl
  obtain ⟨n, hn⟩ : ∃ n, n = l.length := ⟨_, rfl⟩
  have HN := hideH hn
  rw [← hn] at hl ⊢
  clear hn hP
  go_enter Tryz.func81, Tryz.ntmps81
  go_wp2_with fail
  go_loopw [3] (fun x3 v => ∃ k : Nat, (k ≤ n ∨ k = 0) ∧ x3 = .int .i64 ((k + 1 : Nat) : Int) ∧ Hid (∀ i, 1 ≤ i → i < k + 1 → i < n → eC l (i - 1) < eC l i) ∧ Hid (Below w.heap.size w v)) (fun x3 _ => n + 1 - (intOf x3).toNat)
  case atStart => exact ⟨0, .inr rfl, rfl, fun i h1 h2 => by omega, Below.refl _ _⟩
  case round =>
    obtain ⟨k, hk, rfl, HR, HW⟩ := hrel
    by_cases hlt : k + 1 < n
    · rcases HP.out.on HW.out with h0 | ⟨b, off, hsa, hcs⟩
      · have := HN.out; omega
      have d0 := (hcs k (by have := HN.out; omega)).1
      have d1 := (hcs (k + 1) (by have := HN.out; omega)).1
      clear hcs
      have hwk : IntKind.i64.wrap (k : Int) = (k : Int) := wrap_nn (by omega) (by omega)
      have hk1 : (k : Int) < (n : Int) := by omega
      have hk2 : (k : Int) + 1 < (n : Int) := by omega
      by_cases hq : ((eC l (k + 1)).toNat : Int) ≤ ((eC l k).toNat : Int)
      · go_wp2_with fail
        go_quiet (fail)
        go_wp2_with fail
        go_ret
        unfold riP
        refine ⟨ret_bool ?_, below_drewN HW.out _⟩
        symm
        rw [Bool.eq_false_iff]
        intro h
        have := (risB_iff l).1 h (k + 1) (by omega) (by have := HN.out; omega)
        simp only [Nat.add_sub_cancel] at this
        rw [UInt8.lt_iff_toNat_lt] at this
        omega
      · go_wp2_with fail
        go_quiet (fail)
        go_wp2_with fail
        try simp only [← hsa]
        go_roundw
        case rel => exact ⟨k + 1, by omega, by go_num, fun i h1 h2 h3 => by
          by_cases hi : i = k + 1
          · subst hi
            simp only [Nat.add_sub_cancel]
            rw [UInt8.lt_iff_toNat_lt]
            omega
          · exact HR.out i h1 (by omega) h3, below_drewN HW.out _⟩
        case measure => simp [intOf]; omega
    · have hlt2 : ¬ ((k : Int) + 1 < (n : Int)) := by omega
      go_wp2_with fail
      go_ret
      unfold riP
      refine ⟨ret_bool ?_, HW.out⟩
      symm
      rw [risB_iff]
      intro i h1 h2
      exact HR.out i h1 (by have := HN.out; omega) (by rw [HN.out]; exact h2)
/-- do edges lead on? -/
def leaB (l : List (UInt8 × Int)) (i n : Int) : Bool := (List.range l.length).all fun j => decide (i < eT l j ∧ eT l j < n)
theorem leaB_iff (l : List (UInt8 × Int)) (i n : Int) : leaB l i n = true ↔ ∀ j, j < l.length → i < eT l j ∧ eT l j < n := by
  unfold leaB
  simp only [List.all_eq_true, List.mem_range, decide_eq_true_eq]
set_option maxHeartbeats 4000000 in
theorem leadOn_c (a : Option Addr) (cap : Nat) (l : List (UInt8 × Int)) (i N : Int) (w : World) (hl : l.length ≤ maxLen) (hP : EdL w a l) :
    Calls Tryz.prog 82 #[.slice a l.length cap, .int .i64 i, .int .i64 N] w fun e w' => riP (leaB l i N) w e w' := by
  have HP := hideH hP
  unfold maxLen at hl
  obtain ⟨n, hn⟩ : ∃ n, n = l.length := ⟨_, rfl⟩
  have HN := hideH hn
  rw [← hn] at hl ⊢
  clear hn hP
  go_enter Tryz.func82, Tryz.ntmps82
  go_wp2_with fail
  go_loopw [11] (fun x v => ∃ k : Nat, k ≤ n ∧ x = .int .i64 k ∧ Hid (∀ j, j < k → i < eT l j ∧ eT l j < N) ∧ Hid (Below w.heap.size w v)) (fun x _ => n - (intOf x).toNat)
  case atStart => exact ⟨0, Nat.zero_le _, rfl, fun i h1 => by omega, Below.refl _ _⟩
  case round =>
    obtain ⟨k, hk, rfl, HR, HW⟩ := hrel
    by_cases hlt : k < n
    · rcases HP.out.on HW.out with h0 | ⟨b, off, hsa, hcs⟩
      · have := HN.out; omega
      obtain ⟨d0, d1⟩ := hcs k (by have := HN.out; omega)
      clear hcs
      have hk1 : (k : Int) < (n : Int) := by omega
      have hb := hideH ((Below.refl _ wr).alloc (Nat.le_refl _) (.cells #[.int .u8 ((eC l k).toNat : Int), .int .i64 (eT l k)] 45))
      by_cases hq : eT l k ≤ i
      · go_wp2_with fail
        go_ret
        unfold riP
        refine ⟨ret_bool ?_, bthen HW.out hb.out⟩
        symm
        rw [Bool.eq_false_iff]
        intro h
        have := ((leaB_iff l i N).1 h k (by have := HN.out; omega)).1
        omega
      · have hq' : i < eT l k := by omega
        by_cases hq2 : N ≤ eT l k
        · go_wp2_with fail
          go_ret
          unfold riP
          refine ⟨ret_bool ?_, bthen HW.out hb.out⟩
          symm
          rw [Bool.eq_false_iff]
          intro h
          have := ((leaB_iff l i N).1 h k (by have := HN.out; omega)).2
          omega
        · go_wp2_with fail
          try simp only [← hsa]
          go_roundw
          case rel => exact ⟨k + 1, by omega, by go_num, fun j h1 => by
            by_cases hi : j = k
            · subst hi
              omega
            · exact HR.out j (by omega), bthen HW.out hb.out⟩
          case measure => simp [intOf]; omega
    · have hlt2 : ¬ ((k : Int) < (n : Int)) := by omega
      go_wp2_with fail
      go_ret
      unfold riP
      refine ⟨ret_bool ?_, HW.out⟩
      symm
      rw [leaB_iff]
      intro j h2
      exact HR.out j (by have := HN.out; omega)
/-- is a node right? -/
def okN (t : List Nd) (i : Nat) : Bool := decide (-1 ≤ (nod t i).wd) && (risB (nod t i).es && leaB (nod t i).es i t.length)
def okT (t : List Nd) : Prop := 0 < t.length ∧ ∀ i, i < t.length → okN t i = true
def tchk (t : List Nd) : Int := if decide (0 < t.length) && (List.range t.length).all (okN t) then 0 else 1
theorem tchk_iff (t : List Nd) : tchk t = 0 ↔ okT t := by
  unfold tchk okT
  split
  · rename_i h
    simp only [Bool.and_eq_true, decide_eq_true_eq, List.all_eq_true, List.mem_range] at h
    exact ⟨fun _ => h, fun _ => rfl⟩
  · rename_i h
    simp only [Bool.and_eq_true, decide_eq_true_eq, List.all_eq_true, List.mem_range] at h
    exact ⟨fun e => (by cases e), fun e => absurd e h⟩
theorem tchk_yes {t : List Nd} (h : okT t) : tchk t = 0 := (tchk_iff t).2 h
theorem tchk_no {t : List Nd} (h : ¬ okT t) : tchk t = 1 := by
  have h1 : tchk t ≠ 0 := fun e => h ((tchk_iff t).1 e)
  unfold tchk at h1 ⊢
  split
  · rename_i h2; rw [if_pos h2] at h1; exact absurd rfl h1
  · rfl
/-- lists of nodes that a walk can bear -/
structure fitT (t : List Nd) : Prop where
  len : t.length ≤ maxLen
  es : ∀ j, j < t.length → (nod t j).es.length ≤ maxLen
def ckP (P : Int) (w : World) (e : Ending) (w' : World) : Prop := e = .returned (.int .i64 P) ∧ Below w.heap.size w w'
set_option maxHeartbeats 4000000 in
theorem TCheck_c (a : Option Addr) (cap : Nat) (t : List Nd) (w : World) (hf : fitT t) (hP : TrL w a t) :
    Calls Tryz.prog 56 #[.slice a t.length cap] w fun e w' => ckP (tchk t) w e w' := by
  have HP := hideH hP
  have HF := hideH hf
  have hl := hf.len
  unfold maxLen at hl
  obtain ⟨n, hn⟩ : ∃ n, n = t.length := ⟨_, rfl⟩
  have HN := hideH hn
  rw [← hn] at hl ⊢
  clear hn hP hf
  rcases Nat.eq_zero_or_pos n with h0 | h0
  · subst h0
    have HE : Hid (tchk t = 1) := tchk_no fun h => by have := h.1; have := HN.out; omega
    go_enter Tryz.func56, Tryz.ntmps56
    go_wp2_with fail
    go_ret
    unfold ckP
    exact ⟨ret_int HE.out.symm, Below.refl _ _⟩
  · have hz : ((n : Int) == 0) = false := by simp; omega
    go_enter Tryz.func56, Tryz.ntmps56
    go_wp2_with fail
    go_loopw [10] (fun x v => ∃ k : Nat, k ≤ n ∧ x = .int .i64 k ∧ Hid (∀ j, j < k → okN t j = true) ∧ Hid (Below w.heap.size w v)) (fun x _ => n - (intOf x).toNat)
    case atStart => exact ⟨0, Nat.zero_le _, rfl, fun i h1 => by omega, Below.refl _ _⟩
    case round =>
      obtain ⟨k, hk, rfl, HR, HW⟩ := hrel
      by_cases hlt : k < n
      · rcases HP.out.on HW.out with h0 | ⟨b, off, hsa, hcs⟩
        · have := HN.out; omega
        obtain ⟨ea, ec, d0, d1, d2⟩ := hcs k (by have := HN.out; omega)
        clear hcs
        have hk1 : (k : Int) < (n : Int) := by omega
        have hb := hideH ((Below.refl _ wr).alloc (Nat.le_refl _) (.cells #[.slice ea (nod t k).es.length ec, .int .i64 (nod t k).wd] 43))
        have hx := hideH (heap_alloc_new wr (.cells #[.slice ea (nod t k).es.length ec, .int .i64 (nod t k).wd] 43))
        have D2 := hideH d2
        have hle := HF.out.es k (by have := HN.out; omega)
        have HRi := hideH (fun v (hv : Below wr.heap.size wr v) => rise_c ea ec (nod t k).es v hle (D2.out.on hv))
        have HLe := hideH (fun v (hv : Below wr.heap.size wr v) => leadOn_c ea ec (nod t k).es k n v hle (D2.out.on hv))
        have HOk : Hid (okN t k = (decide (-1 ≤ (nod t k).wd) && (risB (nod t k).es && leaB (nod t k).es k n))) := by show _ = _; unfold okN; rw [← HN.out]
        unfold riP at HRi HLe
        clear d2 hle
        generalize risB (nod t k).es = B1 at HRi HOk
        generalize leaB (nod t k).es k n = B2 at HLe HOk
        generalize (nod t k).es.length = en at *
        generalize (nod t k).wd = wd at *
        by_cases q1 : wd < -1
        · have HBad : Hid (tchk t = 1) := tchk_no fun h => by
            have := h.2 k (by have := HN.out; omega)
            rw [HOk.out] at this
            simp at this
            omega
          go_wp2_with fail
          go_ret
          unfold ckP
          exact ⟨ret_int HBad.out.symm, bthen HW.out hb.out⟩
        · have q1' : -1 ≤ wd := by omega
          cases B1
          · have HBad : Hid (tchk t = 1) := tchk_no fun h => by
              have := h.2 k (by have := HN.out; omega)
              rw [HOk.out] at this
              simp at this
            go_wp2_with fail
            refine (HRi.out _ hb.out).mono ?_
            rintro e w1 ⟨rfl, hw1⟩
            go_wp2_with fail
            go_ret
            unfold ckP
            exact ⟨ret_int HBad.out.symm, bthen (bthen HW.out hb.out) hw1⟩
          · go_wp2_with fail
            refine (HRi.out _ hb.out).mono ?_
            rintro e w1 ⟨rfl, hw1⟩
            have H1 := hideH (bthen hb.out hw1)
            have X1 := heap_on hx.out hw1
            have c0 : w1.cell? ⟨wr.heap.size, 0, none⟩ = some (.slice ea en ec) := by simp [World.cell?, X1]
            clear hw1 X1
            go_wp2_with fail
            refine (HLe.out _ H1.out).mono ?_
            rintro e w2 ⟨rfl, hw2⟩
            have H2 := hideH (bthen HW.out (bthen H1.out hw2))
            clear hw2
            cases B2
            · have HBad : Hid (tchk t = 1) := tchk_no fun h => by
                have := h.2 k (by have := HN.out; omega)
                rw [HOk.out] at this
                simp at this
              go_wp2_with fail
              go_ret
              unfold ckP
              exact ⟨ret_int HBad.out.symm, H2.out⟩
            · have HG : Hid (okN t k = true) := by
                show _ = _
                rw [HOk.out]
                simp
                omega
              go_wp2_with fail
              try simp only [← hsa]
              go_roundw
              case rel => exact ⟨k + 1, by omega, by go_num, fun j h1 => by
                by_cases hi : j = k
                · subst hi
                  exact HG.out
                · exact HR.out j (by omega), H2⟩
              case measure => simp [intOf]; omega
      · have hlt2 : ¬ ((k : Int) < (n : Int)) := by omega
        have HG : Hid (tchk t = 0) := tchk_yes ⟨by have := HN.out; omega, fun i hi => HR.out i (by have := HN.out; omega)⟩
        go_wp2_with fail
        go_ret
        unfold ckP
        exact ⟨ret_int HG.out.symm, HW.out⟩
end Go.Proofs.YtfjjdicgekgbeaaGreatDoor.Tri

/- Loops over a function whose rounds go on: the statement; along, the iterator, and the contracts of farthest, Find, Longest. -/
namespace Go.Proofs.YtfjjdicgekgbeaaGreatDoor.Tri
open Go Go.RowKit Go.Shelf
set_option linter.unusedVariables false
attribute [local go_sem] Oper.semAt_some

/-- what lies from B on lies as it lay -/
structure Kept (B : Nat) (W W' : World) : Prop where
  size : W.heap.size ≤ W'.heap.size
  same : ∀ b, B ≤ b → b < W.heap.size → W'.heap[b]? = W.heap[b]?
theorem Kept.refl (B : Nat) (W : World) : Kept B W W := ⟨Nat.le_refl _, fun _ _ _ => rfl⟩
theorem Kept.set {B : Nat} {W X : World} (hx : Kept B W X) {b o : Nat} (h : b < B) (v : Value) : Kept B W (X.setCell ⟨b, o, none⟩ v) :=
  ⟨by have := hx.size; simpa [World.setCell] using this, fun k h1 h2 => (Below.heap_setCell _ _ _ _ (by simp; omega)).trans (hx.same k h1 h2)⟩
abbrev mark_ (D : Nat) : Deferred := { target := .collected D, args := #[] }
theorem low_put {B l : Nat} {W : World} {o : Obj} (o' : Obj) (hl : B ≤ l) (h : W.heap[l]? = some o) : Below B W (W.putObj l o') :=
  (Below.refl B W).grown (grownBy_putObj' W l o') (by have := (Array.getElem?_eq_some_iff.1 h).1; omega) (fun k e => by cases e; exact hl)
/-- what a round's body owes -/
def bpost (B : Nat) (I : Nat → World → Prop) (k : Nat) (W : World) : Exit → Act → World → Prop
  | .normal, _, W' => Kept B W W' ∧ I (k + 1) W'
  | _, _, _ => False
set_option maxHeartbeats 2000000 in
theorem rng_p {g : Operand} {ps : Array Tmp} {assign body : Code} {Q : Exit → Act → World → Prop} {a : Act} {w : World} {f0 : FuncId} {fn0 : Func} (hf0 : Tryz.prog.funcs[f0]? = some fn0) (n : Nat) (gf : FuncId) (caps : Array Value)
    (hg : a.eval g = .func (.func gf) #[] caps) (hgf : ∀ args w, (callFunc gf args).run Tryz.prog w = .ok (.enter gf args) w) (hps : ps.size = 2) (vals : Nat → Value × Value) (R0 T : Nat → Prop)
    (I : Nat → World → Prop) (hI : ∀ k W W', I k W → Below w.heap.size W W' → I k W') (h0 : I 0 w) (a₁ : Nat → Act)
    (hit : ∀ (l : Nat) (J : Nat → World → Prop) (W1 : World), (∀ k W W', J k W → Below W.heap.size W W' → J k W') → (∀ k W, J k W → I k W ∧ l < W.heap.size) →
      (∀ k W, J k W → R0 k → YieldAt Fence.wide (n - 1 - 1) Tryz.prog l #[(vals k).1, (vals k).2] W fun e W' => e = .returned (.bool true) ∧ J (k + 1) W') → J 0 W1 →
      CallsIn Fence.wide (n - 1) Tryz.prog gf (#[.func (.yield l) #[] #[]] ++ caps) W1 fun e W' => ∃ v m, e = .returned v ∧ J (m + 1) W' ∧ T m)
    (hassign : ∀ (l k : Nat) (W : World) (K : Act → World → Prop), R0 k → K (a₁ k) W →
      assign.wpIn (Fence.wide.inRound l) (n - 1 - 1) Tryz.prog (Exit.then K (fun _ _ _ => False)) { tmps := (ps.zip #[(vals k).1, (vals k).2]).foldl (fun t (p, v) => t.setIfInBounds p v) a.tmps, defers := [] } W)
    (hbody : ∀ (l k : Nat) (W : World), R0 k → I k W → body.wpIn (Fence.wide.inRound l) (n - 1 - 1) Tryz.prog (bpost w.heap.size I k W) (a₁ k) W)
    (hdone : ∀ (D m : Nat) (W : World), w.heap.size ≤ D → I (m + 1) W → T m → W.heap[D]? = some (.deferred (some [])) → Q .normal { a with defers := mark_ D :: a.defers } W) :
    wpG Tryz.prog f0 (Code.rangeFunc g ps assign body) Q a w := by
  obtain ⟨rec, hrec⟩ : ∃ rec : LoopState → Option Code → Loop, rec = fun st pe => { state := st, pending := pe, fn := f0, tmps := a.tmps, params := ps, assign, body, defers := w.heap.size } := ⟨_, rfl⟩
  obtain ⟨W1, hW1⟩ : ∃ W1, (w.alloc (.deferred (some []))).alloc (.loop (rec .ready none)) = W1 := ⟨_, rfl⟩
  have hL1 : W1.heap[w.heap.size + 1]? = some (.loop (rec .ready none)) := by
    rw [← hW1]; have := World.alloc_heap_new (w.alloc (.deferred (some []))) (.loop (rec .ready none)); rwa [World.size_alloc] at this
  have hK1 : W1.heap[w.heap.size]? = some (.deferred (some [])) := by
    rw [← hW1]; exact (Below.heap_alloc _ _ _ (by simp)).trans (World.alloc_heap_new w _)
  have hb1 : Below w.heap.size w W1 := by
    rw [← hW1]; exact ((Below.refl _ w).alloc (Nat.le_refl _) _).alloc (by simp) _
  have h1 : I 0 W1 := hI 0 w W1 h0 hb1
  have hit' := hit (w.heap.size + 1) (fun k W => I k W ∧ W.heap[w.heap.size + 1]? = some (.loop (rec .ready none)) ∧ W.heap[w.heap.size]? = some (.deferred (some []))) W1 ?ha ?hr ?hy ⟨h1, hL1, hK1⟩
  case ha =>
    rintro k W W' ⟨hi, hl, hk⟩ hb
    have l1 := (Array.getElem?_eq_some_iff.1 hl).1
    exact ⟨hI k W _ hi (hb.mono (by omega)), (hb.block _ l1).trans hl, (hb.block _ (by omega)).trans hk⟩
  case hr =>
    rintro k W ⟨hi, hl, hk⟩
    exact ⟨hi, (Array.getElem?_eq_some_iff.1 hl).1⟩
  case hy =>
    rintro k W ⟨hi, hl, hk⟩ hlt
    have l1 := (Array.getElem?_eq_some_iff.1 hl).1
    have hy := run_yield (P := Tryz.prog) (args := #[(vals k).1, (vals k).2]) hl (by rw [hrec]; simpa using hps.symm)
    rw [hrec] at hy
    refine ⟨f0, _, assign, body, hy, round_p trivial hf0 (hassign _ k W _ hlt ⟨_, run_beginRound hl (by rw [hrec]), ?_⟩)⟩
    obtain ⟨W2, hW2⟩ : ∃ W2, W.putObj (w.heap.size + 1) (.loop { rec .ready none with state := .busy }) = W2 := ⟨_, rfl⟩
    rw [hW2]
    have hs2 : W2.heap.size = W.heap.size := by rw [← hW2]; simp
    have hl2 : W2.heap[w.heap.size + 1]? = some (.loop { rec .ready none with state := .busy }) := by rw [← hW2]; exact World.putObj_heap_same l1
    have ho2 : ∀ b, b ≠ w.heap.size + 1 → W2.heap[b]? = W.heap[b]? := fun b hb => by rw [← hW2]; exact World.putObj_heap_other hb
    have hk2 : W2.heap[w.heap.size]? = some (.deferred (some [])) := (ho2 _ (by omega)).trans hk
    have hi2 : I k W2 := by
      refine hI k _ W2 hi ?_
      rw [← hW2]; exact low_put _ (by omega) hl
    refine wpIn_mono (hbody (w.heap.size + 1) k W2 hlt hi2) ?_
    rintro e a3 W3 hp
    cases e
    case normal =>
      obtain ⟨hk3, hi3⟩ := hp
      have hl3 : W3.heap[w.heap.size + 1]? = some (.loop { rec .ready none with state := .busy }) := (hk3.same _ (by omega) (by omega)).trans hl2
      have hd3 : W3.heap[w.heap.size]? = some (.deferred (some [])) := (hk3.same _ (by omega) (by omega)).trans hk2
      have hr := run_endRound (P := Tryz.prog) none hl3
      rw [hrec] at hr
      refine ⟨_, _, hr, rfl, hI _ _ _ hi3 (low_put _ (by omega) hl3), ?_, (World.putObj_heap_other (by omega)).trans hd3⟩
      rw [hrec]; exact World.putObj_heap_same (Array.getElem?_eq_some_iff.1 hl3).1
    all_goals exact hp.elim
  have hC := callsIn_wide.1 hit'
  clear hit' hit hassign hbody
  obtain ⟨ar, har⟩ : ∃ ar : Array Value, ar = #[.func (.yield (w.heap.size + 1)) #[] #[]] ++ caps := ⟨_, rfl⟩
  rw [← har] at hC
  refine wpG_range (l := w.heap.size + 1) (mk := [mark_ w.heap.size]) (w₁ := W1) (w₁' := W1) (w₂ := W1) (d := { target := .fn (.func gf) caps, args := #[.func (.yield (w.heap.size + 1)) #[] #[]] }) (gf := gf) (args := ar) ?_ ?_ ?_ hC ?_ ?_ ?_
  · rw [← hW1, hrec]; exact run_enterLoop_outer _ _ _ _ _
  · simp only [resolve, hg]
    simp [go_sem]
  · rw [har]; simp [invoke, go_sem, hgf]
  · rintro v W3 ⟨v', m, hv, ⟨hi, hl, hk⟩, hT⟩
    refine ⟨none, _, by have := run_endLoop (P := Tryz.prog) hl (by rw [hrec]; simp); rw [hrec] at this; exact this, ?_⟩
    exact hdone _ m _ (Nat.le_refl _) (hI _ _ _ hi (low_put _ (by omega) hl)) hT ((World.putObj_heap_other (by omega)).trans hk)
  · rintro ch W3 ⟨v', m, hv, _⟩
    cases hv
  · rintro W3 ⟨v', m, hv, _⟩
    cases hv
/-- a function with one such loop, where it is left -/
theorem mark_leaves {B : Nat} {F : Fence} {n : Nat} {P : Program} {fn : Func} {tmps : Array Value} {R : Ending → World → Prop} {u : FrameMode} (hu : u ≠ .run) {D : Nat} {W : World} (hB : B ≤ D) (hD : W.heap[D]? = some (.deferred (some [])))
    (h : ∀ W', Below B W W' → LeavesInM F n P fn tmps R [] u W') : LeavesInM F n P fn tmps R [mark_ D] u W :=
  ⟨hu, .inl ⟨D, _, rfl, run_takeDeferred hD, h _ ((low_put _ (Nat.le_refl _) hD).mono hB)⟩⟩
theorem wpG_plain {P : Program} {f : FuncId} {c : Code} {Q : Exit → Act → World → Prop} {a : Act} {w : World} (h : c.wp P Q a w) : wpG P f c Q a w := wpG_of (n := 0) (wpIn_wide.2 h)

theorem along_c (ta : Option Addr) (tn tc : Nat) (s : ByteArray) (w : World) : Calls Tryz.prog 57 #[.slice ta tn tc, .string s] w fun e w' => e = .returned (.func (.func 83) #[] #[.pointer (some ⟨w.heap.size + 1, 0, none⟩), .pointer (some ⟨w.heap.size, 0, none⟩)]) ∧ w' = (w.alloc (.cells #[.slice ta tn tc] 38)).alloc (.cells #[.string s] 9) := by
  have hmf : ∀ (fn : Fn) (first cap : Array Value) (w : World), (Instr.makeFunc fn first cap).run Tryz.prog w = .ok (.func fn first cap) w := fun _ _ _ _ => rfl
  go_enter Tryz.func57, Tryz.ntmps57
  go_wp2
  go_ret
  exact ⟨by simp, rfl⟩

theorem go_lt {t : List Nd} (h : okT t) : ∀ (s : List UInt8) (a k : Nat), a < t.length → go t a s = some k → k < t.length
  | [], a, k, ha, hg => by simp only [go, Option.some.injEq] at hg; omega
  | c :: s, a, k, ha, hg => by
    cases hc : edg (nod t a).es c with
    | none => simp only [go, hc] at hg; cases hg
    | some j =>
      simp only [go, hc] at hg
      refine go_lt h s j.toNat k ?_ hg
      have hok := h.2 a ha
      unfold okN at hok
      simp only [Bool.and_eq_true] at hok
      have hm := (edg_mem (risB_rises.1 hok.2.1) c j).1 hc
      obtain ⟨i, hi, e⟩ := List.getElem_of_mem hm
      rw [eC_at hi] at e
      have := (leaB_iff _ _ _).1 hok.2.2 i hi
      have e2 : eT (nod t a).es i = j := congrArg Prod.snd e
      omega
theorem ok_rises {t : List Nd} (h : okT t) {a : Nat} (ha : a < t.length) : Rises (nod t a).es := by
  have hok := h.2 a ha
  unfold okN at hok
  simp only [Bool.and_eq_true] at hok
  exact risB_rises.1 hok.2.1
theorem ok_lead {t : List Nd} (h : okT t) {a i : Nat} (ha : a < t.length) (hi : i < (nod t a).es.length) : (a : Int) < eT (nod t a).es i ∧ eT (nod t a).es i < t.length := by
  have hok := h.2 a ha
  unfold okN at hok
  simp only [Bool.and_eq_true] at hok
  exact (leaB_iff _ _ _).1 hok.2.2 i hi
theorem take_snoc (s : ByteArray) (k : Nat) (h : k < s.size) : s.data.toList.take (k + 1) = s.data.toList.take k ++ [s[k]] := by
  rw [List.take_succ_eq_append_getElem (by simpa using h)]; rfl
theorem go_next {t : List Nd} {s : ByteArray} {k a : Nat} (hk : k < s.size) (h : go t 0 (s.data.toList.take k) = some a) : go t 0 (s.data.toList.take (k + 1)) = (edg (nod t a).es s[k]).map (·.toNat) := by
  rw [take_snoc s k hk, go_append, h]
  simp only [Option.bind_some, go]
  cases edg (nod t a).es s[k] <;> rfl
/-- where an edge that is there stands -/
theorem cnt_edge {l : List (UInt8 × Int)} (h : Rises l) {c : UInt8} {j : Int} (hj : edg l c = some j) : cnt l c < l.length ∧ eT l (cnt l c) = j := by
  have hm := (edg_mem h c j).1 hj
  obtain ⟨i, hi, e⟩ := List.getElem_of_mem hm
  rw [eC_at hi] at e
  have e1 : eC l i = c := congrArg Prod.fst e
  have e2 : eT l i = j := congrArg Prod.snd e
  have hc : cnt l c = i := cnt_at (by omega) (fun t ht => by rw [← e1]; exact rises_at h ht hi) (fun t h1 h2 => by
    rcases Nat.lt_or_ge i t with h3 | h3
    · have := rises_at h h3 h2
      rw [e1] at this
      intro h4
      exact absurd (UInt8.lt_trans this h4) (UInt8.lt_irrefl _)
    · obtain rfl : t = i := by omega
      rw [e1]; exact UInt8.lt_irrefl _)
  rw [hc]
  exact ⟨hi, e2⟩
end Go.Proofs.YtfjjdicgekgbeaaGreatDoor.Tri

/- The iterator along; the contracts of farthest. -/
namespace Go.Proofs.YtfjjdicgekgbeaaGreatDoor.Tri
open Go Go.RowKit Go.Shelf
set_option linter.unusedVariables false
attribute [local go_sem] Oper.semAt_some

/-- how far a text leads -/
def Far (t : List Nd) (s : ByteArray) (m : Nat) : Prop := m ≤ s.size ∧ (go t 0 (s.data.toList.take m)).isSome = true ∧ (m = s.size ∨ go t 0 (s.data.toList.take (m + 1)) = none)
def atN (t : List Nd) (s : ByteArray) (k : Nat) : Nat := (go t 0 (s.data.toList.take k)).getD 0
theorem atN_of {t : List Nd} {s : ByteArray} {k a : Nat} (h : go t 0 (s.data.toList.take k) = some a) : atN t s k = a := by unfold atN; rw [h]; rfl
set_option maxRecDepth 100000 in
set_option maxHeartbeats 4000000 in
theorem along1_c (n l sb tb tc : Nat) (ta : Option Addr) (t : List Nd) (s : ByteArray) (J : Nat → World → Prop) (hs : s.size ≤ maxLen) (hf : fitT t) (hok : okT t)
    (hJb : ∀ k W W', J k W → Below W.heap.size W W' → J k W') (hrd : ∀ k W, J k W → (W.cell? ⟨sb, 0, none⟩ = some (.string s) ∧ W.cell? ⟨tb, 0, none⟩ = some (.slice ta t.length tc) ∧ TrL W ta t) ∧ l < W.heap.size)
    (hY : ∀ k W, J k W → (k ≤ s.size ∧ (go t 0 (s.data.toList.take k)).isSome = true) → YieldAt Fence.wide (n - 1) Tryz.prog l #[.int .i64 k, .int .i64 (atN t s k)] W fun e W' => e = .returned (.bool true) ∧ J (k + 1) W')
    (W : World) (h0 : J 0 W) :
    CallsIn Fence.wide n Tryz.prog 83 #[.func (.yield l) #[] #[], .pointer (some ⟨sb, 0, none⟩), .pointer (some ⟨tb, 0, none⟩)] W fun e W' => ∃ v m, e = .returned v ∧ J (m + 1) W' ∧ Far t s m := by
  unfold maxLen at hs
  have HF := hideH hf
  have HO := hideH hok
  have HJb := hideH hJb
  have Hrd := hideH hrd
  have HY := hideH hY
  have H0 := hideH h0
  have hmix : Tryz.prog.follows .mixedOrders = true := by kernel_rfl
  clear hJb hrd hY h0 hf hok
  refine callsIn_of_wp Tryz.func83 rfl trivial ?_ rfl
  simp only [Tryz.ntmps83, List.size_toArray, List.length_cons, List.length_nil, Nat.reduceAdd, Nat.reduceSub, Array.replicate_succ, Array.replicate_zero, List.push_toArray, List.append_toArray, List.nil_append, List.cons_append]
  gi_wp2
  gi_loopw [4, 5] (fun x4 x5 wr => ∃ k a : Nat, k ≤ s.size ∧ x4 = .int .i64 a ∧ x5 = .int .i64 k ∧ Hid (go t 0 (s.data.toList.take k) = some a) ∧ Hid (J k wr)) (fun _ x5 _ => s.size + 1 - (intOf x5).toNat)
  case atStart => exact ⟨0, 0, Nat.zero_le _, rfl, rfl, rfl, H0⟩
  case round =>
    obtain ⟨k, a, hk, rfl, rfl, HG, HJ⟩ := hrel
    have hy1 := HY.out k wr HJ.out ⟨hk, by rw [HG.out]; rfl⟩
    rw [atN_of HG.out] at hy1
    obtain ⟨fn, tmps, assign, body, hy, hR⟩ := hy1
    have HR := hideH hR
    clear hR
    have hal : a < t.length := go_lt HO.out _ 0 a HO.out.1 HG.out
    by_cases hlt : k < s.size
    · gi_wp2
      refine ⟨fun h => by simp [Fence.wide] at h, ?_⟩
      refine HR.out.mono ?_
      rintro e W3 ⟨rfl, hJ3⟩
      have HJ3 := hideH hJ3
      obtain ⟨⟨c1, c2, htr⟩, -⟩ := Hrd.out _ _ hJ3
      have hn0 := HF.out.len
      unfold maxLen at hn0
      have hrs := hideH (ok_rises HO.out hal)
      have hle := HF.out.es a hal
      rcases htr with h0 | ⟨b, off, rfl, hcs⟩
      · omega
      obtain ⟨ea, ec, d0, d1, d2⟩ := hcs a hal
      clear hcs hJ3 hy
      have D2 := hideH d2
      have hai : (a : Int) < (t.length : Int) := by omega
      have hki : (k : Int) < (s.size : Int) := by omega
      have HP := hideH (fun v (hv : Below W3.heap.size W3 v) => place_c ea ec (nod t a).es s[k] v (D2.out.on hv) hrs.out)
      have HGN := hideH (go_next hlt HG.out)
      have HE : Hid (∀ j, edg (nod t a).es s[k] = some j → cnt (nod t a).es s[k] < (nod t a).es.length ∧ eT (nod t a).es (cnt (nod t a).es s[k]) = j) := fun j hj => cnt_edge hrs.out hj
      unfold plP at HP
      clear d2
      have hB : Below W3.heap.size W3 W3.drew := (Below.refl _ W3).drew
      have HBd := hideH hB
      clear hB
      cases hed : edg (nod t a).es s[k] with
      | none =>
        rw [hed] at HP HGN
        clear hed HE
        generalize cnt (nod t a).es s[k] = ci at HP
        simp only [Option.isSome_none] at HP
        gi_wp2
        refine wpIn_wide.2 ?_
        go_region_held3 (fun v => v.cell? ⟨sb, 0, none⟩ = some (.string s) ∧ v.cell? ⟨tb, 0, none⟩ = some (.slice (some ⟨b, off, none⟩) t.length tc) ∧ v.cell? ⟨b, off + a * 2, none⟩ = some (.slice ea (nod t a).es.length ec)) (first | (exact ⟨c1, c2, d0⟩) | (exact ⟨cell_on (w := W3.drew) c1 hw4, cell_on (w := W3.drew) c2 hw4, cell_on (w := W3.drew) d0 hw4⟩)) ((go_at_call 42; refine (HP.out _ HBd.out).mono ?_; rintro e W4 ⟨rfl, hw4⟩))
        all_goals
          have HJ4 := hideH (HJb.out _ _ _ HJ3.out (bthen HBd.out hw4))
          clear hw4
          gi_wp2
          refine bodyPost_ret (results_none rfl _ _ _) rfl ?_
          exact ⟨_, k, rfl, HJ4.out, hk, by rw [HG.out]; rfl, .inr HGN.out⟩
      | some j =>
        rw [hed] at HP HGN
        obtain ⟨hci, hej⟩ := HE.out j hed
        have hld := ok_lead HO.out hal hci
        clear hed HE
        rw [hej] at hld
        rcases D2.out with h0 | ⟨eb, eo, rfl, hec⟩
        · omega
        have x1 := (hec _ hci).2
        rw [hej] at x1
        clear hec hej
        obtain ⟨ci, hcc⟩ : ∃ ci, ci = cnt (nod t a).es s[k] := ⟨_, rfl⟩
        rw [← hcc] at HP hci x1
        clear hcc
        have hcii : (ci : Int) < ((nod t a).es.length : Int) := by omega
        unfold maxLen at hle
        obtain ⟨j', rfl⟩ : ∃ j' : Nat, j = j' := ⟨j.toNat, by omega⟩
        simp only [Option.isSome_some] at HP
        have hall := hideH (show W3.cell? ⟨sb, 0, none⟩ = some (.string s) ∧ W3.cell? ⟨tb, 0, none⟩ = some (.slice (some ⟨b, off, none⟩) t.length tc) ∧ W3.cell? ⟨b, off + a * 2, none⟩ = some (.slice (some ⟨eb, eo, none⟩) (nod t a).es.length ec) ∧ W3.cell? ⟨eb, eo + ci * 2 + 1, none⟩ = some (.int .i64 j') from ⟨c1, c2, d0, x1⟩)
        have HGN2 : Hid (go t 0 (s.data.toList.take (k + 1)) = some j') := by show _ = _; rw [HGN.out]; rfl
        clear HGN x1
        gi_wp2
        refine wpIn_wide.2 ?_
        go_region_held3 (fun v => v.cell? ⟨sb, 0, none⟩ = some (.string s) ∧ v.cell? ⟨tb, 0, none⟩ = some (.slice (some ⟨b, off, none⟩) t.length tc) ∧ v.cell? ⟨b, off + a * 2, none⟩ = some (.slice (some ⟨eb, eo, none⟩) (nod t a).es.length ec)) (first | (exact ⟨c1, c2, d0⟩) | (exact ⟨cell_on (w := W3.drew) c1 hw4, cell_on (w := W3.drew) c2 hw4, cell_on (w := W3.drew) d0 hw4⟩)) ((go_at_call 42; refine (HP.out _ HBd.out).mono ?_; rintro e W4 ⟨rfl, hw4⟩))
        all_goals
          have HJ4 := hideH (HJb.out _ _ _ HJ3.out (bthen HBd.out hw4))
          obtain ⟨y1, y2, y3, y4⟩ := hall.out
          have z1 := cell_on y1 (bthen HBd.out hw4)
          have z2 := cell_on y2 (bthen HBd.out hw4)
          have z3 := cell_on y3 (bthen HBd.out hw4)
          have z4 := cell_on y4 (bthen HBd.out hw4)
          clear hw4 y1 y2 y3 y4 c1 c2 d0 d1 hall
          gi_wp2
          go_roundw
          case rel => exact ⟨k + 1, j', by omega, rfl, by go_num, HGN2, HJ4⟩
          case measure => simp [intOf]; omega
    · gi_wp2
      refine ⟨fun h => by simp [Fence.wide] at h, ?_⟩
      refine HR.out.mono ?_
      rintro e W3 ⟨rfl, hJ3⟩
      have HJ3 := hideH hJ3
      obtain ⟨⟨c1, c2, htr⟩, -⟩ := Hrd.out _ _ hJ3
      have hki : ¬ ((k : Int) < (s.size : Int)) := by omega
      clear htr hJ3 hy
      gi_wp2
      go_end0
      exact ⟨_, k, rfl, HJ3.out, hk, by rw [HG.out]; rfl, .inl (by omega)⟩
end Go.Proofs.YtfjjdicgekgbeaaGreatDoor.Tri

/- The contracts of package trie: farthest. -/
namespace Go.Proofs.YtfjjdicgekgbeaaGreatDoor.Tri
open Go Go.RowKit Go.Shelf
set_option linter.unusedVariables false
attribute [local go_sem] Oper.semAt_some

/-- two boxes, and two behind them -/
theorem heap4 (w : World) (o1 o2 o3 o4 : Obj) : ((((w.alloc o1).alloc o2).alloc o3).alloc o4).heap[w.heap.size]? = some o1 ∧ ((((w.alloc o1).alloc o2).alloc o3).alloc o4).heap[w.heap.size + 1]? = some o2 ∧ ((((w.alloc o1).alloc o2).alloc o3).alloc o4).heap[w.heap.size + 2]? = some o3 ∧ ((((w.alloc o1).alloc o2).alloc o3).alloc o4).heap[w.heap.size + 3]? = some o4 := by
  refine ⟨?_, ?_, ?_, ?_⟩
  · rw [Below.heap_alloc _ _ _ (by simp <;> omega), Below.heap_alloc _ _ _ (by simp <;> omega), Below.heap_alloc _ _ _ (by simp)]; exact World.alloc_heap_new _ _
  · rw [Below.heap_alloc _ _ _ (by simp <;> omega), Below.heap_alloc _ _ _ (by simp)]
    have := World.alloc_heap_new (w.alloc o1) o2; rwa [World.size_alloc] at this
  · rw [Below.heap_alloc _ _ _ (by simp)]
    have := World.alloc_heap_new ((w.alloc o1).alloc o2) o3; rwa [World.size_alloc, World.size_alloc] at this
  · have := World.alloc_heap_new (((w.alloc o1).alloc o2).alloc o3) o4; rwa [World.size_alloc, World.size_alloc, World.size_alloc] at this
theorem setCell_one {w : World} {b : Nat} {x v : Value} {t : TypeId} (h : w.heap[b]? = some (.cells #[x] t)) : (w.setCell ⟨b, 0, none⟩ v).heap[b]? = some (.cells #[v] t) := by
  have hlt := (Array.getElem?_eq_some_iff.1 h).1
  have h' := (Array.getElem?_eq_some_iff.1 h).2
  simp [World.setCell, hlt, Array.getElem_modify, h']
theorem setCell_far {w : World} {b b' o : Nat} {v : Value} (h : b' ≠ b) : (w.setCell ⟨b, o, none⟩ v).heap[b']? = w.heap[b']? := Below.heap_setCell _ _ _ _ (by exact h)
/-- what holds between two rounds of farthest -/
def FI (w : World) (ta : Option Addr) (tc : Nat) (t : List Nd) (s : ByteArray) (k : Nat) (W : World) : Prop :=
  Below w.heap.size w W ∧ (∃ x y, W.heap[w.heap.size]? = some (.cells #[.int .i64 x] 3) ∧ W.heap[w.heap.size + 1]? = some (.cells #[.int .i64 y] 3) ∧ (k ≠ 0 → x = ((k - 1 : Nat) : Int) ∧ y = atN t s (k - 1))) ∧ W.heap[w.heap.size + 2]? = some (.cells #[.slice ta t.length tc] 38) ∧ W.heap[w.heap.size + 3]? = some (.cells #[.string s] 9) ∧ TrL W ta t
theorem FI.on {w : World} {ta : Option Addr} {tc : Nat} {t : List Nd} {s : ByteArray} {k : Nat} {W W' : World} (h : FI w ta tc t s k W) (hP : TrL w ta t) (hb : Below (w.heap.size + 4) W W') : FI w ta tc t s k W' := by
  obtain ⟨h1, ⟨x, y, h2, h3, h4⟩, h5, h6, h7⟩ := h
  exact ⟨h1.trans (hb.mono (by omega)), ⟨x, y, (hb.block _ (by omega)).trans h2, (hb.block _ (by omega)).trans h3, h4⟩, (hb.block _ (by omega)).trans h5, (hb.block _ (by omega)).trans h6, hP.on (h1.trans (hb.mono (by omega)))⟩
set_option maxRecDepth 100000 in
set_option maxHeartbeats 2000000 in
theorem farthest_c (ta : Option Addr) (tc : Nat) (t : List Nd) (s : ByteArray) (w : World) (hs : s.size ≤ maxLen) (hf : fitT t) (hok : okT t) (hP : TrL w ta t) :
    Calls Tryz.prog 41 #[.slice ta t.length tc, .string s] w fun e w' => ∃ m : Nat, e = .returned (.tuple #[.int .i64 m, .int .i64 (atN t s m)]) ∧ Far t s m ∧ Below w.heap.size w w' := by
  refine calls_of_wpG Tryz.func41 rfl ?_
  simp only [Tryz.ntmps41, List.size_toArray, List.length_cons, List.length_nil, Nat.reduceAdd, Nat.reduceSub, Array.replicate_succ, Array.replicate_zero, List.push_toArray, List.append_toArray, List.nil_append, List.cons_append]
  have HS := hideH hs
  have HF := hideH hf
  have HO := hideH hok
  have HP := hideH hP
  clear hs hf hok hP
  refine wpG_seq (wpG_plain ?_)
  go_wp2
  refine wpG_seq (wpG_plain ?_)
  go_wp2
  refine wpG_seq (wpG_seq (wpG_plain ?_))
  go_wp2_with (go_at_call 57; refine (along_c _ _ _ _ _).mono ?_; rintro e w1 ⟨rfl, rfl⟩)
  refine wpG_block ?_
  obtain ⟨W4, hW4⟩ : ∃ W4, W4 = (((w.alloc (.cells #[.int .i64 0] 3)).alloc (.cells #[.int .i64 0] 3)).alloc (.cells #[.slice ta t.length tc] 38)).alloc (.cells #[.string s] 9) := ⟨_, rfl⟩
  have hs4 : W4.heap.size = w.heap.size + 4 := by rw [hW4]; simp
  have hb4 : Below w.heap.size w W4 := by rw [hW4]; exact ((((Below.refl _ w).alloc (Nat.le_refl _) _).alloc (by simp) _).alloc (by simp; omega) _).alloc (by simp; omega) _
  have hk4 := heap4 w (.cells #[.int .i64 0] 3) (.cells #[.int .i64 0] 3) (.cells #[.slice ta t.length tc] 38) (.cells #[.string s] 9)
  rw [← hW4] at hk4
  have HI0 : Hid (FI w ta tc t s 0 W4) := ⟨hb4, ⟨0, 0, hk4.1, hk4.2.1, fun h => absurd rfl h⟩, hk4.2.2.1, hk4.2.2.2, HP.out.on hb4⟩
  simp only [← hW4]
  simp only [Nat.add_assoc, Nat.reduceAdd]
  clear hW4 hk4 hb4
  refine rng_p Tryz.func41 9 83 #[.pointer (some ⟨w.heap.size + 3, 0, none⟩), .pointer (some ⟨w.heap.size + 2, 0, none⟩)] rfl (fun _ _ => by simp [go_sem]) rfl (fun k => (.int .i64 k, .int .i64 (atN t s k))) (fun k => k ≤ s.size ∧ (go t 0 (s.data.toList.take k)).isSome = true) (Far t s) (FI w ta tc t s) ?hI HI0.out
    (fun k => { tmps := #[.slice ta t.length tc, .string s, undef, undef, .int .i64 0, .int .i64 0, .pointer (some ⟨w.heap.size, 0, none⟩), .pointer (some ⟨w.heap.size + 1, 0, none⟩), .int .i64 k, .int .i64 (atN t s k), .slice ta t.length tc, .string s, .func (.func 83) #[] #[.pointer (some ⟨w.heap.size + 3, 0, none⟩), .pointer (some ⟨w.heap.size + 2, 0, none⟩)], .int .i64 k, .int .i64 (atN t s k), undef, undef, undef, undef], defers := [] })
    ?hit ?assign ?body ?done
  case hI =>
    intro k W W' h hb
    rw [hs4] at hb
    exact h.on HP.out hb
  case hit =>
    intro l J W1 h1 h2 h3 h4
    refine along1_c 8 l (w.heap.size + 3) (w.heap.size + 2) tc ta t s J HS.out HF.out HO.out h1 (fun k W h => ?_) (fun k W h h' => h3 k W h h') W1 h4
    obtain ⟨⟨-, -, h5, h6, h7⟩, hl⟩ := h2 k W h
    exact ⟨⟨by simp [World.cell?, h6], by simp [World.cell?, h5], h7⟩, hl⟩
  case assign =>
    intro l k W K hk hK
    gi_wp2
    exact hK
  case body =>
    rintro l k W hk ⟨h1, ⟨x, y, h2, h3, h4⟩, h5, h6, h7⟩
    have f0 : W.frozen? ⟨w.heap.size, 0, none⟩ = false := by simp [World.frozen?, h2]
    have f1 : W.frozen? ⟨w.heap.size + 1, 0, none⟩ = false := by simp [World.frozen?, h3]
    have c0 : W.cell? ⟨w.heap.size, 0, none⟩ = some (.int .i64 x) := by simp [World.cell?, h2]
    have c1 : W.cell? ⟨w.heap.size + 1, 0, none⟩ = some (.int .i64 y) := by simp [World.cell?, h3]
    have H1 := hideH h1
    have H2 := hideH h2
    have H3 := hideH h3
    have H5 := hideH h5
    have H6 := hideH h6
    clear h1 h2 h3 h4 h5 h6 h7
    gi_wp2
    show Kept _ W _ ∧ FI w ta tc t s (k + 1) _
    rw [hs4]
    have hbb : Below w.heap.size w ((W.setCell ⟨w.heap.size, 0, none⟩ (.int .i64 k)).setCell ⟨w.heap.size + 1, 0, none⟩ (.int .i64 (atN t s k))) := (H1.out.setCell (p := ⟨w.heap.size, 0, none⟩) (Nat.le_refl _) _).setCell (p := ⟨w.heap.size + 1, 0, none⟩) (by simp) _
    refine ⟨((Kept.refl _ W).set (by omega) _).set (by omega) _, hbb, ⟨k, atN t s k, ?_, ?_, fun _ => ⟨rfl, rfl⟩⟩, ?_, ?_, HP.out.on hbb⟩
    · rw [setCell_far (by omega)]; exact setCell_one H2.out
    · exact setCell_one (x := .int .i64 y) (by rw [setCell_far (by omega)]; exact H3.out)
    · rw [setCell_far (by omega), setCell_far (by omega)]; exact H5.out
    · rw [setCell_far (by omega), setCell_far (by omega)]; exact H6.out
  case done =>
    rintro Dk m W hDk ⟨h1, ⟨x, y, h2, h3, h4⟩, h5, h6, h7⟩ hT hk
    rw [hs4] at hDk
    obtain ⟨rfl, rfl⟩ := h4 (by omega)
    show wpG _ _ _ _ _ _
    refine wpG_plain ?_
    have c0 : W.cell? ⟨w.heap.size, 0, none⟩ = some (.int .i64 m) := by simp [World.cell?, h2]
    have c1 : W.cell? ⟨w.heap.size + 1, 0, none⟩ = some (.int .i64 (atN t s m)) := by simp [World.cell?, h3]
    have H1 := hideH h1
    have HK := hideH hk
    have HT := hideH hT
    clear h1 h2 h3 h4 h5 h6 h7 hk hT
    go_wp2_with fail
    go_quiet (fail)
    go_wp2_with fail
    refine mark_leaves (by simp) (B := w.heap.size) (by omega) (W := W.drewN nq) HK.out fun W' hw => ?_
    refine ⟨.tuple #[.int .i64 m, .int .i64 (atN t s m)], ?_, m, rfl, HT.out, (below_drewN H1.out nq).trans hw⟩
    simp [results, Tryz.results41, go_sem]
end Go.Proofs.YtfjjdicgekgbeaaGreatDoor.Tri

/- The contracts of package trie: Find, Longest. -/
namespace Go.Proofs.YtfjjdicgekgbeaaGreatDoor.Tri
open Go Go.RowKit Go.Shelf
set_option linter.unusedVariables false
attribute [local go_sem] Oper.semAt_some

theorem far_at {t : List Nd} {s : ByteArray} {m : Nat} (h : Far t s m) : go t 0 (s.data.toList.take m) = some (atN t s m) := by
  obtain ⟨_, h1, _⟩ := h
  unfold atN
  cases hg : go t 0 (s.data.toList.take m) with
  | none => rw [hg] at h1; cases h1
  | some k => rfl
theorem sz_len (s : ByteArray) : s.data.toList.length = s.size := by simp
theorem take_all (s : ByteArray) : s.data.toList.take s.size = s.data.toList := by rw [← sz_len, List.take_length]
theorem far_find {t : List Nd} {s : ByteArray} {m : Nat} (h : Far t s m) : findT t s.data.toList = if m < s.size then -1 else (nod t (atN t s m)).wd := by
  have ha := far_at h
  obtain ⟨h1, _, h2⟩ := h
  by_cases hm : m < s.size
  · rw [if_pos hm]
    rcases h2 with h2 | h2
    · omega
    · have := go_none_more h2 (n := s.size) (by omega)
      rw [take_all] at this
      exact find_none this
  · rw [if_neg hm]
    obtain rfl : m = s.size := by omega
    rw [take_all] at ha
    unfold findT
    rw [ha]
/-- what Find answers -/
def fndR (t : List Nd) (s : ByteArray) : Int := if tchk t = 0 then findT t s.data.toList else 0
/-- the longest one of the first k beginnings -/
def lgK (t : List Nd) (s : ByteArray) : Nat → Int × Nat
  | 0 => (-1, 0)
  | k + 1 => lgT (fun n => findT t (s.data.toList.take n)) k
theorem lgK_next {t : List Nd} {s : ByteArray} {k a : Nat} (h : go t 0 (s.data.toList.take k) = some a) : lgK t s (k + 1) = if (nod t a).wd = -1 then lgK t s k else ((nod t a).wd, k) := by
  have hf : findT t (s.data.toList.take k) = (nod t a).wd := by unfold findT; rw [h]
  cases k with
  | zero =>
    simp only [lgK, lgT]
    rw [hf]
    by_cases hq : (nod t a).wd = -1
    · rw [if_pos hq, hq]
    · rw [if_neg hq]
  | succ k =>
    simp only [lgK]
    rw [lgT]
    simp only [hf]
def longR (t : List Nd) (s : ByteArray) : Int × Nat := if tchk t = 0 then longT t s.data.toList else (0, 0)
theorem far_long {t : List Nd} {s : ByteArray} {m : Nat} (h : Far t s m) : longT t s.data.toList = lgK t s (m + 1) := by
  obtain ⟨h1, _, h2⟩ := h
  simp only [lgK]
  exact long_at (by rw [sz_len]; exact h1) (by rw [sz_len]; exact h2)
/-- what holds between two rounds of Longest: B, the boxes of t's, and of word and long -/
def LI (w : World) (B0 B : Nat) (ta : Option Addr) (tc : Nat) (t : List Nd) (s : ByteArray) (k : Nat) (W : World) : Prop :=
  Below w.heap.size w W ∧ (∃ x : Int × Nat, W.heap[B]? = some (.cells #[.int .i64 x.1] 3) ∧ W.heap[B + 1]? = some (.cells #[.int .i64 x.2] 3) ∧ x = lgK t s k) ∧ W.heap[B + 2]? = some (.cells #[.slice ta t.length tc] 38) ∧ W.heap[B + 3]? = some (.cells #[.string s] 9) ∧ W.heap[B0]? = some (.cells #[.slice ta t.length tc] 38)
theorem LI.on {w : World} {B0 B : Nat} {ta : Option Addr} {tc : Nat} {t : List Nd} {s : ByteArray} {k : Nat} {W W' : World} (h : LI w B0 B ta tc t s k W) (h0 : B0 < B + 4) (h00 : w.heap.size ≤ B + 4) (hb : Below (B + 4) W W') : LI w B0 B ta tc t s k W' := by
  obtain ⟨h1, ⟨x, h2, h3, h4⟩, h5, h6, h7⟩ := h
  exact ⟨h1.trans (hb.mono h00), ⟨x, (hb.block _ (by omega)).trans h2, (hb.block _ (by omega)).trans h3, h4⟩, (hb.block _ (by omega)).trans h5, (hb.block _ (by omega)).trans h6, (hb.block _ h0).trans h7⟩
set_option maxRecDepth 100000 in
set_option maxHeartbeats 4000000 in
theorem Longest_c (ta : Option Addr) (tc : Nat) (t : List Nd) (s : ByteArray) (w : World) (hs : s.size ≤ maxLen) (hf : fitT t) (hP : TrL w ta t) :
    Calls Tryz.prog 35 #[.slice ta t.length tc, .string s] w fun e w' => e = .returned (.tuple #[.int .i64 (longR t s).1, .int .i64 (longR t s).2, .int .i64 (tchk t)]) ∧ Below w.heap.size w w' := by
  have HP := hideH hP
  have HF := hideH hf
  have HS := hideH hs
  have HBx := hideH ((Below.refl _ w).alloc (Nat.le_refl _) (.cells #[.slice ta t.length tc] 38))
  have HXx := hideH (World.alloc_heap_new w (.cells #[.slice ta t.length tc] 38))
  have HC := hideH (TCheck_c ta tc t _ hf (hP.on HBx.out))
  unfold ckP at HC
  by_cases hok : okT t
  · have h0 := tchk_yes hok
    have HV : Hid (longR t s = longT t s.data.toList) := by show _ = _; unfold longR; rw [if_pos h0]
    have HO := hideH hok
    rw [h0] at HC ⊢
    clear h0 hP hf hok hs
    refine calls_of_wpG Tryz.func35 rfl ?_
    simp only [Tryz.ntmps35, List.size_toArray, List.length_cons, List.length_nil, Nat.reduceAdd, Nat.reduceSub, Array.replicate_succ, Array.replicate_zero, List.push_toArray, List.append_toArray, List.nil_append, List.cons_append]
    refine wpG_seq (wpG_plain ?_)
    go_wp2
    refine wpG_seq (wpG_plain ?_)
    go_wp2_with fail
    refine HC.out.mono ?_
    rintro e w1 ⟨rfl, hw1⟩
    have H1 := hideH (bthen HBx.out hw1)
    have X1 := hideH (heap_on HXx.out hw1)
    have x1 : w1.cell? ⟨w.heap.size, 0, none⟩ = some (.slice ta t.length tc) := by simp [World.cell?, X1.out]
    clear hw1 HBx HXx HC
    have hlt1 : w.heap.size < w1.heap.size := (Array.getElem?_eq_some_iff.1 X1.out).1
    go_wp2_with fail
    refine wpG_seq (wpG_plain ?_)
    go_wp2_with fail
    have x2 : ((w1.alloc (.cells #[.int .i64 (-1)] 3)).alloc (.cells #[.int .i64 0] 3)).cell? ⟨w.heap.size, 0, none⟩ = some (.slice ta t.length tc) := by
      rw [World.cell?_of_block ((Below.heap_alloc _ _ _ (by simp; omega)).trans (Below.heap_alloc _ _ _ (by omega)))]
      exact x1
    refine wpG_seq (wpG_seq (wpG_plain ?_))
    go_wp2_with (go_at_call 57; refine (along_c _ _ _ _ _).mono ?_; rintro e w2 ⟨rfl, rfl⟩)
    refine wpG_block ?_
    obtain ⟨W4, hW4⟩ : ∃ W4, W4 = (((w1.alloc (.cells #[.int .i64 (-1)] 3)).alloc (.cells #[.int .i64 0] 3)).alloc (.cells #[.slice ta t.length tc] 38)).alloc (.cells #[.string s] 9) := ⟨_, rfl⟩
    have hs4 : W4.heap.size = w1.heap.size + 4 := by rw [hW4]; simp
    have hb4 : Below w1.heap.size w1 W4 := by rw [hW4]; exact ((((Below.refl _ w1).alloc (Nat.le_refl _) _).alloc (by simp) _).alloc (by simp; omega) _).alloc (by simp; omega) _
    have hk4 := heap4 w1 (.cells #[.int .i64 (-1)] 3) (.cells #[.int .i64 0] 3) (.cells #[.slice ta t.length tc] 38) (.cells #[.string s] 9)
    rw [← hW4] at hk4
    have HI0 : Hid (LI w w.heap.size w1.heap.size ta tc t s 0 W4) := ⟨bthen H1.out hb4, ⟨(-1, 0), hk4.1, hk4.2.1, rfl⟩, hk4.2.2.1, hk4.2.2.2, heap_on X1.out hb4⟩
    simp only [← hW4]
    simp only [Nat.add_assoc, Nat.reduceAdd]
    clear hW4 hk4 hb4 x2 x1 X1
    obtain ⟨B, hB⟩ : ∃ B, B = w1.heap.size := ⟨_, rfl⟩
    rw [← hB] at hs4 HI0 hlt1
    simp only [← hB]
    clear hB H1
    refine rng_p Tryz.func35 9 83 #[.pointer (some ⟨B + 3, 0, none⟩), .pointer (some ⟨B + 2, 0, none⟩)] rfl (fun _ _ => by simp [go_sem]) rfl (fun k => (.int .i64 k, .int .i64 (atN t s k))) (fun k => k ≤ s.size ∧ (go t 0 (s.data.toList.take k)).isSome = true) (Far t s) (LI w w.heap.size B ta tc t s) ?hI HI0.out
      (fun k => { tmps := #[.slice ta t.length tc, .string s, .pointer (some ⟨w.heap.size, 0, none⟩), undef, .int .i64 0, .int .i64 0, .int .i64 0, .int .i64 0, .pointer (some ⟨B, 0, none⟩), .pointer (some ⟨B + 1, 0, none⟩), .int .i64 k, .int .i64 (atN t s k), .slice ta t.length tc, .int .i64 0, .int .i64 0, .bool false, undef, .slice ta t.length tc, .string s, .func (.func 83) #[] #[.pointer (some ⟨B + 3, 0, none⟩), .pointer (some ⟨B + 2, 0, none⟩)], .int .i64 k, .int .i64 (atN t s k), undef, undef, undef, undef, undef, undef, undef, undef, undef, undef, undef, undef, undef, undef], defers := [] })
      ?hit ?assign ?body ?done
    case hI =>
      intro k W W' h hb
      rw [hs4] at hb
      exact h.on (by omega) (by omega) hb
    case hit =>
      intro l J W1 h1 h2 h3 h4
      refine along1_c 8 l (B + 3) (B + 2) tc ta t s J HS.out HF.out HO.out h1 (fun k W h => ?_) (fun k W h h' => h3 k W h h') W1 h4
      obtain ⟨⟨h8, -, h5, h6, h7⟩, hl⟩ := h2 k W h
      exact ⟨⟨by simp [World.cell?, h6], by simp [World.cell?, h5], HP.out.on h8⟩, hl⟩
    case assign =>
      intro l k W K hk hK
      gi_wp2
      exact hK
    case body =>
      rintro l k W ⟨hk1, hk2⟩ ⟨h1, ⟨⟨x, y⟩, h2, h3, h4⟩, h5, h6, h7⟩
      have f0 : W.frozen? ⟨B, 0, none⟩ = false := by simp [World.frozen?, h2]
      have f1 : W.frozen? ⟨B + 1, 0, none⟩ = false := by simp [World.frozen?, h3]
      have c0 : W.cell? ⟨B, 0, none⟩ = some (.int .i64 x) := by simp [World.cell?, h2]
      have c1 : W.cell? ⟨B + 1, 0, none⟩ = some (.int .i64 (y : Nat)) := by simp [World.cell?, h3]
      have c2 : W.cell? ⟨w.heap.size, 0, none⟩ = some (.slice ta t.length tc) := by simp [World.cell?, h7]
      obtain ⟨a, ha⟩ := Option.isSome_iff_exists.1 hk2
      have hat := atN_of ha
      have hlt := go_lt HO.out _ 0 a HO.out.1 ha
      have HN := hideH (lgK_next ha)
      have H1 := hideH h1
      have H2 := hideH h2
      have H3 := hideH h3
      have H4 := hideH h4
      have H5 := hideH h5
      have H6 := hideH h6
      have H7 := hideH h7
      have hl := HF.out.len
      unfold maxLen at hl
      rw [hat]
      rcases HP.out.on h1 with h0 | ⟨b, off, hta, hcs⟩
      · omega
      obtain ⟨ea, ec, d0, d1, -⟩ := hcs a hlt
      have hai : (a : Int) < (t.length : Int) := by omega
      clear hcs h1 h2 h3 h4 h5 h6 h7 ha hat
      subst hta
      by_cases hq : (nod t a).wd = -1
      · rw [if_pos hq] at HN
        rw [hq] at d1
        clear hq
        gi_wp2
        show Kept _ W _ ∧ LI w w.heap.size B (some ⟨b, off, none⟩) tc t s (k + 1) _
        exact ⟨Kept.refl _ _, H1.out, ⟨(x, y), H2.out, H3.out, by rw [HN.out]; exact H4.out⟩, H5.out, H6.out, H7.out⟩
      · rw [if_neg hq] at HN
        have hqb : ((nod t a).wd != -1) = true := by rw [bne_iff_ne]; exact hq
        clear hq
        gi_wp2
        show Kept _ W _ ∧ LI w w.heap.size B (some ⟨b, off, none⟩) tc t s (k + 1) _
        have hbb : Below w.heap.size w ((W.setCell ⟨B, 0, none⟩ (.int .i64 (nod t a).wd)).setCell ⟨B + 1, 0, none⟩ (.int .i64 k)) := (H1.out.setCell (p := ⟨B, 0, none⟩) (by simp; omega) _).setCell (p := ⟨B + 1, 0, none⟩) (by simp; omega) _
        refine ⟨((Kept.refl _ W).set (by omega) _).set (by omega) _, hbb, ⟨((nod t a).wd, k), ?_, ?_, HN.out.symm⟩, ?_, ?_, ?_⟩
        · rw [setCell_far (by omega)]; exact setCell_one H2.out
        · exact setCell_one (by rw [setCell_far (by omega)]; exact H3.out)
        · rw [setCell_far (by omega), setCell_far (by omega)]; exact H5.out
        · rw [setCell_far (by omega), setCell_far (by omega)]; exact H6.out
        · rw [setCell_far (by omega), setCell_far (by omega)]; exact H7.out
    case done =>
      rintro Dk m W hDk ⟨h1, ⟨⟨x, y⟩, h2, h3, h4⟩, h5, h6, h7⟩ hT hk
      rw [hs4] at hDk
      have HL := hideH (far_long hT)
      rw [← h4] at HL
      show wpG _ _ _ _ _ _
      refine wpG_plain ?_
      have c0 : W.cell? ⟨B, 0, none⟩ = some (.int .i64 x) := by simp [World.cell?, h2]
      have c1 : W.cell? ⟨B + 1, 0, none⟩ = some (.int .i64 (y : Nat)) := by simp [World.cell?, h3]
      have H1 := hideH h1
      have HK := hideH hk
      clear h1 h2 h3 h4 h5 h6 h7 hk hT
      go_wp2_with fail
      go_quiet (fail)
      go_wp2_with fail
      refine mark_leaves (by simp) (B := w.heap.size) (by omega) (W := W.drewN nq) HK.out fun W' hw => ?_
      refine ⟨.tuple #[.int .i64 x, .int .i64 (y : Nat), .int .i64 0], ?_, by rw [HV.out, HL.out], (below_drewN H1.out nq).trans hw⟩
      simp [results, Tryz.results35, go_sem]
  · have h1 := tchk_no hok
    have HV : Hid (longR t s = (0, 0)) := by show _ = _; unfold longR; rw [if_neg (by rw [h1]; decide)]
    rw [h1] at HC ⊢
    clear h1 hok hP hf
    go_enter Tryz.func35, Tryz.ntmps35
    go_wp2_with fail
    refine HC.out.mono ?_
    rintro e w1 ⟨rfl, hw1⟩
    have H1 := hideH (bthen HBx.out hw1)
    clear hw1
    go_wp2_with fail
    go_ret3
    exact ⟨by rw [HV.out] <;> rfl, H1.out⟩
end Go.Proofs.YtfjjdicgekgbeaaGreatDoor.Tri

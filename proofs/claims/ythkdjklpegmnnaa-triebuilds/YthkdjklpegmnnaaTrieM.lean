/- Tries in plain Lean: what building lays, and what is found. -/
import Derived.WalkKit
namespace Go.Proofs.Ythkdjklpegmnnaa.Tri
open Go
set_option linter.unusedVariables false

structure Nd where
  es : List (UInt8 × Int)
  wd : Int
def nod (t : List Nd) (i : Nat) : Nd := t[i]?.getD ⟨[], -1⟩
def edg (es : List (UInt8 × Int)) (c : UInt8) : Option Int := (es.find? fun e => e.1 == c).map (·.2)
/-- how many edges have less bytes -/
def cnt (es : List (UInt8 × Int)) (c : UInt8) : Nat := es.countP fun e => decide (e.1 < c)
def ins (es : List (UInt8 × Int)) (c : UInt8) (k : Int) : List (UInt8 × Int) := es.take (cnt es c) ++ (c, k) :: es.drop (cnt es c)
def Rises (es : List (UInt8 × Int)) : Prop := es.Pairwise fun a b => a.1 < b.1

theorem cnt_split {es : List (UInt8 × Int)} (h : Rises es) (c : UInt8) : (∀ e ∈ es.take (cnt es c), e.1 < c) ∧ (∀ e ∈ es.drop (cnt es c), ¬ e.1 < c) := by
  induction es with
  | nil => simp
  | cons a r ih =>
    obtain ⟨h1, h2⟩ := List.pairwise_cons.1 h
    obtain ⟨i1, i2⟩ := ih h2
    by_cases ha : a.1 < c
    · have e : cnt (a :: r) c = cnt r c + 1 := by unfold cnt; rw [List.countP_cons_of_pos (by simpa using ha)]
      rw [e]
      refine ⟨fun x hx => ?_, fun x hx => ?_⟩
      · simp only [List.take_succ_cons, List.mem_cons] at hx
        rcases hx with rfl | hx
        · exact ha
        · exact i1 x hx
      · simp only [List.drop_succ_cons] at hx
        exact i2 x hx
    · have e : cnt (a :: r) c = 0 := by
        unfold cnt
        rw [List.countP_eq_zero]
        intro x hx
        rcases List.mem_cons.1 hx with rfl | hx
        · simpa using ha
        · have := h1 x hx
          simp only [decide_eq_true_eq]
          intro h3
          exact ha (UInt8.lt_trans this h3)
      rw [e]
      refine ⟨fun x hx => by simp at hx, fun x hx => ?_⟩
      rcases List.mem_cons.1 hx with rfl | hx
      · exact ha
      · intro h3
        exact ha (UInt8.lt_trans (h1 x hx) h3)
theorem edg_mem {es : List (UInt8 × Int)} (h : Rises es) (c : UInt8) (k : Int) : edg es c = some k ↔ (c, k) ∈ es := by
  unfold edg
  induction es with
  | nil => simp
  | cons a r ih =>
    obtain ⟨h1, h2⟩ := List.pairwise_cons.1 h
    have ih := ih h2
    by_cases ha : a.1 = c
    · rw [List.find?_cons_of_pos (by simpa using ha)]
      simp only [Option.map_some, Option.some.injEq, List.mem_cons]
      constructor
      · intro e; left; rw [← ha, ← e]
      · rintro (e | e)
        · rw [← e]
        · have := h1 _ e
          rw [ha] at this
          exact absurd this (UInt8.lt_irrefl _)
    · rw [List.find?_cons_of_neg (by simpa using ha), ih]
      simp only [List.mem_cons]
      constructor
      · exact .inr
      · rintro (e | e)
        · exact absurd (by rw [← e]) ha
        · exact e
theorem edg_none {es : List (UInt8 × Int)} {c : UInt8} : edg es c = none ↔ ∀ e ∈ es, e.1 ≠ c := by
  unfold edg; simp
theorem ins_mem (es : List (UInt8 × Int)) (c : UInt8) (k : Int) (x : UInt8 × Int) : x ∈ ins es c k ↔ x = (c, k) ∨ x ∈ es := by
  unfold ins
  have := List.take_append_drop (cnt es c) es
  constructor
  · intro h
    rcases List.mem_append.1 h with h | h
    · exact .inr (List.mem_of_mem_take h)
    · rcases List.mem_cons.1 h with h | h
      · exact .inl h
      · exact .inr (List.mem_of_mem_drop h)
  · rintro (h | h)
    · rw [h]; simp
    · rw [← this] at h
      rcases List.mem_append.1 h with h | h
      · exact List.mem_append.2 (.inl h)
      · exact List.mem_append.2 (.inr (List.mem_cons.2 (.inr h)))
theorem ins_rises {es : List (UInt8 × Int)} (h : Rises es) {c : UInt8} (hn : ∀ e ∈ es, e.1 ≠ c) (k : Int) : Rises (ins es c k) := by
  obtain ⟨h1, h2⟩ := cnt_split h c
  unfold ins
  have hs := List.take_append_drop (cnt es c) es
  have h' := h
  unfold Rises at h'
  rw [← hs, List.pairwise_append] at h'
  obtain ⟨p1, p2, p3⟩ := h'
  have hd : ∀ e ∈ es.drop (cnt es c), c < e.1 := fun e he => by
    have a := h2 e he
    have b := hn e (List.mem_of_mem_drop he)
    have : ¬ e.1 = c := b
    rcases UInt8.lt_or_lt_of_ne this with h | h
    · exact absurd h a
    · exact h
  unfold Rises
  rw [List.pairwise_append]
  refine ⟨p1, List.pairwise_cons.2 ⟨hd, p2⟩, ?_⟩
  intro a ha b hb
  rcases List.mem_cons.1 hb with rfl | hb
  · exact h1 a ha
  · exact p3 a ha b hb

/-- whereto a text leads from a node -/
def go (t : List Nd) : Nat → List UInt8 → Option Nat
  | a, [] => some a
  | a, c :: s => match edg (nod t a).es c with
    | none => none
    | some k => go t k.toNat s
theorem go_append (t : List Nd) : ∀ (s r : List UInt8) (a : Nat), go t a (s ++ r) = (go t a s).bind fun k => go t k r
  | [], r, a => rfl
  | c :: s, r, a => by
    simp only [List.cons_append, go]
    cases edg (nod t a).es c with
    | none => rfl
    | some k => exact go_append t s r k.toNat

/-- a new node behind all -/
def grow (t : List Nd) (a : Nat) (c : UInt8) : List Nd := t.set a ⟨ins (nod t a).es c t.length, (nod t a).wd⟩ ++ [⟨[], -1⟩]
/-- the way of a text is laid from a node on -/
def lay : List Nd → Nat → List UInt8 → List Nd × Nat
  | t, a, [] => (t, a)
  | t, a, c :: s => match edg (nod t a).es c with
    | some k => lay t k.toNat s
    | none => lay (grow t a c) t.length s
/-- a word's number, if it has none -/
def mark (t : List Nd) (a : Nat) (k : Int) : List Nd := if (nod t a).wd = -1 then t.set a ⟨(nod t a).es, k⟩ else t
def addw (t : List Nd) (s : List UInt8) (k : Int) : List Nd := mark (lay t 0 s).1 (lay t 0 s).2 k
def start : List Nd := [⟨[], -1⟩]
/-- all words, the first n of them -/
def bldN (l : List (List UInt8)) : Nat → List Nd
  | 0 => start
  | n + 1 => addw (bldN l n) (l[n]?.getD []) n

structure Ok (t : List Nd) (pre : List (List UInt8)) : Prop where
  len : t.length = pre.length
  zero : pre[0]? = some []
  nd : pre.Nodup
  cl : ∀ p c, p ++ [c] ∈ pre → p ∈ pre
  ed : ∀ (i : Nat) p, pre[i]? = some p → ∀ c (k : Int), (c, k) ∈ (nod t i).es ↔ (0 ≤ k ∧ pre[k.toNat]? = some (p ++ [c]))
  so : ∀ i, Rises (nod t i).es
  up : ∀ (i : Nat) e, e ∈ (nod t i).es → (i : Int) < e.2

theorem ok_start : Ok start [[]] := by
  refine ⟨rfl, rfl, by simp, ?_, ?_, ?_, ?_⟩
  · intro p c h; simp at h
  · intro i p h c k
    have hi : i = 0 := by
      rcases Nat.eq_zero_or_pos i with h0 | h0
      · exact h0
      · rw [List.getElem?_eq_none (by simp; omega)] at h; cases h
    subst hi
    obtain rfl : [] = p := by simpa using h
    constructor
    · intro h; simp [start, nod] at h
    · rintro ⟨h0, h1⟩
      rcases Nat.eq_zero_or_pos k.toNat with h2 | h2
      · rw [h2] at h1; simp at h1
      · rw [List.getElem?_eq_none (by simp; omega)] at h1; cases h1
  · intro i
    rcases Nat.eq_zero_or_pos i with h0 | h0
    · subst h0; simp [start, nod, Rises]
    · simp [start, nod, Rises, show i ≠ 0 by omega]
  · intro i e h
    rcases Nat.eq_zero_or_pos i with h0 | h0
    · subst h0; simp [start, nod] at h
    · simp [start, nod, show i ≠ 0 by omega] at h
theorem nod_grow_same {t : List Nd} {a : Nat} (c : UInt8) (ha : a < t.length) : nod (grow t a c) a = ⟨ins (nod t a).es c t.length, (nod t a).wd⟩ := by
  unfold grow
  rw [nod, List.getElem?_append_left (by simpa using ha), List.getElem?_set_self (by simpa using ha)]; rfl
theorem nod_grow_other {t : List Nd} {a i : Nat} (c : UInt8) (ha : a < t.length) (h : i ≠ a) : nod (grow t a c) i = nod t i := by
  have e : (grow t a c)[i]?.getD ⟨[], -1⟩ = t[i]?.getD ⟨[], -1⟩ := by
    unfold grow
    by_cases hi : i < t.length
    · rw [List.getElem?_append_left (by simpa using hi), List.getElem?_set_ne (by omega)]
    · rw [List.getElem?_eq_none (l := t) (by omega)]
      by_cases h2 : i = t.length
      · subst h2; simp
      · rw [List.getElem?_eq_none (by simp; omega)]
  exact e
theorem nodup_get {α : Type} {l : List α} (h : l.Nodup) {i j : Nat} {x : α} (hi : l[i]? = some x) (hj : l[j]? = some x) : i = j := by
  obtain ⟨h1, e1⟩ := List.getElem?_eq_some_iff.1 hi
  obtain ⟨h2, e2⟩ := List.getElem?_eq_some_iff.1 hj
  rcases Nat.lt_trichotomy i j with h3 | h3 | h3
  · have := List.pairwise_iff_getElem.1 h i j h1 h2 h3
    rw [e1, e2] at this; exact absurd rfl this
  · exact h3
  · have := List.pairwise_iff_getElem.1 h j i h2 h1 h3
    rw [e1, e2] at this; exact absurd rfl this
theorem ok_grow {t : List Nd} {pre : List (List UInt8)} (h : Ok t pre) {a : Nat} {p : List UInt8} (ha : pre[a]? = some p) {c : UInt8} (hc : edg (nod t a).es c = none) : Ok (grow t a c) (pre ++ [p ++ [c]]) := by
  have hal : a < t.length := by rw [h.len]; exact (List.getElem?_eq_some_iff.1 ha).1
  have hno := edg_none.1 hc
  have hnew : p ++ [c] ∉ pre := fun hm => by
    obtain ⟨k, hk1, hk2⟩ := List.getElem_of_mem hm
    have := (h.ed a p ha c (k : Int)).2 ⟨by omega, by rw [Int.toNat_natCast, List.getElem?_eq_getElem hk1, hk2]⟩
    exact hno _ this rfl
  have hp : p ∈ pre := List.mem_of_getElem? ha
  refine ⟨by simp [grow, h.len], ?_, ?_, ?_, ?_, ?_, ?_⟩
  · rw [List.getElem?_append_left (by rw [← h.len]; omega)]; exact h.zero
  · rw [List.nodup_append]
    refine ⟨h.nd, by simp, ?_⟩
    intro x hx y hy
    obtain rfl : y = p ++ [c] := by simpa using hy
    intro e; subst e; exact hnew hx
  · intro q d hm
    rcases List.mem_append.1 hm with hm | hm
    · exact List.mem_append.2 (.inl (h.cl q d hm))
    · obtain ⟨h1, h2⟩ := List.append_inj' (List.mem_singleton.1 hm) rfl
      rw [h1]; exact List.mem_append.2 (.inl hp)
  · intro i q hi d k
    by_cases hi1 : i < pre.length
    · rw [List.getElem?_append_left hi1] at hi
      have key : (0 ≤ k ∧ (pre ++ [p ++ [c]])[k.toNat]? = some (q ++ [d])) ↔ ((0 ≤ k ∧ pre[k.toNat]? = some (q ++ [d])) ∨ (k = pre.length ∧ p ++ [c] = q ++ [d])) := by
        by_cases hk : k.toNat < pre.length
        · rw [List.getElem?_append_left hk]
          constructor
          · exact .inl
          · rintro (e | ⟨e, _⟩)
            · exact e
            · omega
        · rw [List.getElem?_append_right (by omega)]
          by_cases hk2 : k.toNat = pre.length
          · rw [hk2]
            simp only [Nat.sub_self, List.getElem?_cons_zero, Option.some.injEq]
            constructor
            · rintro ⟨h1, h2⟩; exact .inr ⟨by omega, h2⟩
            · rintro (⟨h1, h2⟩ | ⟨h1, h2⟩)
              · simp at h2
              · exact ⟨by omega, h2⟩
          · constructor
            · rintro ⟨h1, h2⟩
              rw [List.getElem?_eq_none (by simp; omega)] at h2; cases h2
            · rintro (⟨h1, h2⟩ | ⟨h1, h2⟩)
              · rw [List.getElem?_eq_none (by omega)] at h2; cases h2
              · omega
      rw [key]
      by_cases e : i = a
      · subst e
        obtain rfl : q = p := by rw [ha] at hi; exact (Option.some.inj hi).symm
        rw [nod_grow_same c hal]
        show (d, k) ∈ ins _ _ _ ↔ _
        rw [ins_mem, h.ed i q hi d k]
        constructor
        · rintro (e | e)
          · obtain ⟨rfl, rfl⟩ := Prod.mk.inj e
            exact .inr ⟨by rw [h.len], rfl⟩
          · exact .inl e
        · rintro (e | ⟨e1, e2⟩)
          · exact .inr e
          · left
            have := (List.append_inj' e2 rfl).2
            obtain rfl : c = d := by simpa using this
            rw [e1, h.len]
      · rw [nod_grow_other c hal e, h.ed i q hi d k]
        constructor
        · exact .inl
        · rintro (e1 | ⟨_, e2⟩)
          · exact e1
          · obtain ⟨e3, _⟩ := List.append_inj' e2 rfl
            subst e3
            exact absurd (nodup_get h.nd hi ha) e
    · have hi2 : i = pre.length := by
        rcases Nat.lt_or_ge pre.length i with h3 | h3
        · rw [List.getElem?_eq_none (by simp; omega)] at hi; cases hi
        · omega
      subst hi2
      rw [List.getElem?_append_right (Nat.le_refl _)] at hi
      obtain rfl : p ++ [c] = q := by simpa using hi
      have e : pre.length ≠ a := by rw [← h.len]; omega
      rw [nod_grow_other c hal e]
      have : nod t pre.length = ⟨[], -1⟩ := by rw [nod, List.getElem?_eq_none (by rw [h.len]; exact Nat.le_refl _)]; rfl
      rw [this]
      constructor
      · intro h; simp at h
      · rintro ⟨h0, h1⟩
        exfalso
        have hm := List.mem_of_getElem? h1
        rcases List.mem_append.1 hm with hm | hm
        · exact hnew (h.cl _ _ hm)
        · have := congrArg List.length (List.mem_singleton.1 hm)
          simp at this
  · intro i
    by_cases e : i = a
    · subst e; rw [nod_grow_same c hal]; exact ins_rises (h.so i) hno _
    · rw [nod_grow_other c hal e]; exact h.so i
  · intro i e he
    by_cases e' : i = a
    · subst e'
      rw [nod_grow_same c hal] at he
      rcases (ins_mem _ _ _ _).1 he with he | he
      · rw [he]; show (i : Int) < (t.length : Int); omega
      · exact h.up i e he
    · rw [nod_grow_other c hal e'] at he; exact h.up i e he
theorem wd_grow {t : List Nd} {a : Nat} (c : UInt8) (ha : a < t.length) (i : Nat) : (nod (grow t a c) i).wd = (nod t i).wd := by
  by_cases e : i = a
  · subst e; rw [nod_grow_same c ha]
  · rw [nod_grow_other c ha e]

/-- a way that is laid -/
theorem lay_ok : ∀ (s : List UInt8) (t : List Nd) (pre : List (List UInt8)) (a : Nat) (p : List UInt8), Ok t pre → pre[a]? = some p →
    ∃ pre', Ok (lay t a s).1 pre' ∧ pre <+: pre' ∧ pre'[(lay t a s).2]? = some (p ++ s) ∧ (∀ q, q ∈ pre' ↔ (q ∈ pre ∨ ∃ m, m ≤ s.length ∧ q = p ++ s.take m)) ∧ (∀ i, (nod (lay t a s).1 i).wd = (nod t i).wd) ∧ t.length ≤ (lay t a s).1.length ∧ (lay t a s).1.length ≤ t.length + s.length
  | [], t, pre, a, p, h, ha => by
    refine ⟨pre, h, List.prefix_rfl, by simpa [lay] using ha, fun q => ⟨.inl, ?_⟩, fun _ => rfl, Nat.le_refl _, Nat.le_refl _⟩
    rintro (e | ⟨m, _, e⟩)
    · exact e
    · rw [e]; simp; exact List.mem_of_getElem? ha
  | c :: s, t, pre, a, p, h, ha => by
    have hal : a < t.length := by rw [h.len]; exact (List.getElem?_eq_some_iff.1 ha).1
    cases hc : edg (nod t a).es c with
    | some k =>
      obtain ⟨hk0, hk⟩ := (h.ed a p ha c k).1 ((edg_mem (h.so a) c k).1 hc)
      obtain ⟨pre', i1, i2, i3, i4, i5, i6, i7⟩ := lay_ok s t pre k.toNat (p ++ [c]) h hk
      simp only [lay, hc]
      refine ⟨pre', i1, i2, by simpa using i3, fun q => ?_, i5, i6, by simp; omega⟩
      rw [i4]
      constructor
      · rintro (e | ⟨m, hm, e⟩)
        · exact .inl e
        · exact .inr ⟨m + 1, by simp; omega, by simpa using e⟩
      · rintro (e | ⟨m, hm, e⟩)
        · exact .inl e
        · cases m with
          | zero => left; rw [e]; simp; exact List.mem_of_getElem? ha
          | succ m => exact .inr ⟨m, by simp at hm; omega, by simpa using e⟩
    | none =>
      have hg := ok_grow h ha hc
      have hk : (pre ++ [p ++ [c]])[t.length]? = some (p ++ [c]) := by rw [List.getElem?_append_right (by rw [h.len]; exact Nat.le_refl _), h.len]; simp
      obtain ⟨pre', i1, i2, i3, i4, i5, i6, i7⟩ := lay_ok s (grow t a c) (pre ++ [p ++ [c]]) t.length (p ++ [c]) hg hk
      simp only [lay, hc]
      have hgl : (grow t a c).length = t.length + 1 := by simp [grow]
      refine ⟨pre', i1, (List.prefix_append _ _).trans i2, by simpa using i3, fun q => ?_, fun i => (i5 i).trans (wd_grow c hal i), by omega, by simp; omega⟩
      rw [i4]
      constructor
      · rintro (e | ⟨m, hm, e⟩)
        · rcases List.mem_append.1 e with e | e
          · exact .inl e
          · exact .inr ⟨1, by simp, by simpa using e⟩
        · exact .inr ⟨m + 1, by simp; omega, by simpa using e⟩
      · rintro (e | ⟨m, hm, e⟩)
        · exact .inl (List.mem_append.2 (.inl e))
        · cases m with
          | zero => left; rw [e]; simp; exact List.mem_of_getElem? ha
          | succ m => exact .inr ⟨m, by simp at hm; omega, by simpa using e⟩
end Go.Proofs.Ythkdjklpegmnnaa.Tri

/- Tries in plain Lean: words that were built in, and what is found of them. -/
import Derived.Test.YthkdjklpegmnnaaTrieM
namespace Go.Proofs.Ythkdjklpegmnnaa.Tri
open Go
set_option linter.unusedVariables false

theorem nod_set_same {t : List Nd} {a : Nat} (x : Nd) (ha : a < t.length) : nod (t.set a x) a = x := by
  have e : (t.set a x)[a]?.getD ⟨[], -1⟩ = x := by rw [List.getElem?_set_self ha]; rfl
  exact e
theorem nod_set_other {t : List Nd} {a i : Nat} (x : Nd) (h : i ≠ a) : nod (t.set a x) i = nod t i := by
  have e : (t.set a x)[i]?.getD ⟨[], -1⟩ = t[i]?.getD ⟨[], -1⟩ := by rw [List.getElem?_set_ne (by omega)]
  exact e
theorem mark_len (t : List Nd) (a : Nat) (k : Int) : (mark t a k).length = t.length := by unfold mark; split <;> simp
theorem mark_es {t : List Nd} {a : Nat} (k : Int) (ha : a < t.length) (i : Nat) : (nod (mark t a k) i).es = (nod t i).es := by
  unfold mark
  split
  · by_cases e : i = a
    · subst e; rw [nod_set_same _ ha]
    · rw [nod_set_other _ e]
  · rfl
theorem mark_wd {t : List Nd} {a : Nat} (k : Int) (ha : a < t.length) (i : Nat) : (nod (mark t a k) i).wd = if i = a ∧ (nod t a).wd = -1 then k else (nod t i).wd := by
  unfold mark
  by_cases h : (nod t a).wd = -1
  · rw [if_pos h]
    by_cases e : i = a
    · subst e; rw [nod_set_same _ ha, if_pos ⟨rfl, h⟩]
    · rw [nod_set_other _ e, if_neg (by simp [e])]
  · rw [if_neg h, if_neg (by simp [h])]
theorem ok_mark {t : List Nd} {pre : List (List UInt8)} (h : Ok t pre) {a : Nat} (ha : a < t.length) (k : Int) : Ok (mark t a k) pre := by
  refine ⟨(mark_len t a k).trans h.len, h.zero, h.nd, h.cl, fun i p hi c j => ?_, fun i => ?_, fun i e he => ?_⟩
  · rw [mark_es k ha]; exact h.ed i p hi c j
  · rw [mark_es k ha]; exact h.so i
  · rw [mark_es k ha] at he; exact h.up i e he

def wo (l : List (List UInt8)) (j : Nat) : List UInt8 := l[j]?.getD []
/-- which of the first n words is the first one that is so -/
def fw (l : List (List UInt8)) : Nat → List UInt8 → Int
  | 0, _ => -1
  | n + 1, p => if fw l n p = -1 then (if wo l n = p then (n : Int) else -1) else fw l n p
theorem fw_spec (l : List (List UInt8)) (p : List UInt8) : ∀ n, (fw l n p = -1 ∧ ∀ j, j < n → wo l j ≠ p) ∨ (∃ j : Nat, fw l n p = j ∧ j < n ∧ wo l j = p ∧ ∀ i, i < j → wo l i ≠ p)
  | 0 => .inl ⟨rfl, fun j hj => by omega⟩
  | n + 1 => by
    rcases fw_spec l p n with ⟨h1, h2⟩ | ⟨j, h1, h2, h3, h4⟩
    · by_cases e : wo l n = p
      · exact .inr ⟨n, by simp [fw, h1, e], by omega, e, h2⟩
      · refine .inl ⟨by simp [fw, h1, e], fun j hj => ?_⟩
        rcases Nat.lt_or_ge j n with h | h
        · exact h2 j h
        · obtain rfl : j = n := by omega
          exact e
    · refine .inr ⟨j, ?_, by omega, h3, h4⟩
      have : ¬ fw l n p = -1 := by omega
      simp only [fw, if_neg this]; exact h1
theorem fw_ge (l : List (List UInt8)) (n : Nat) (p : List UInt8) : -1 ≤ fw l n p := by
  rcases fw_spec l p n with ⟨h1, _⟩ | ⟨j, h1, _⟩ <;> omega
theorem fw_iff (l : List (List UInt8)) (n : Nat) (p : List UInt8) : 0 ≤ fw l n p ↔ ∃ j, j < n ∧ wo l j = p := by
  rcases fw_spec l p n with ⟨h1, h2⟩ | ⟨j, h1, h2, h3, _⟩
  · constructor
    · intro h; omega
    · rintro ⟨j, hj, e⟩; exact absurd e (h2 j hj)
  · exact ⟨fun _ => ⟨j, h2, h3⟩, fun _ => by omega⟩
def sz (l : List (List UInt8)) : Nat → Nat
  | 0 => 1
  | n + 1 => sz l n + (wo l n).length
theorem bld_succ (l : List (List UInt8)) (n : Nat) : bldN l (n + 1) = addw (bldN l n) (wo l n) n := rfl

theorem bld_ok (l : List (List UInt8)) : ∀ n, ∃ pre, Ok (bldN l n) pre ∧ (∀ q, q ∈ pre ↔ (q = [] ∨ ∃ j m, j < n ∧ m ≤ (wo l j).length ∧ q = (wo l j).take m)) ∧ (∀ i p, pre[i]? = some p → (nod (bldN l n) i).wd = fw l n p) ∧ (bldN l n).length ≤ sz l n
  | 0 => by
    refine ⟨[[]], ok_start, fun q => ⟨fun h => .inl (by simpa using h), ?_⟩, fun i p h => ?_, Nat.le_refl _⟩
    · rintro (e | ⟨j, m, hj, _⟩)
      · simp [e]
      · omega
    · show (nod start i).wd = -1
      rcases Nat.eq_zero_or_pos i with h0 | h0
      · subst h0; rfl
      · simp [start, nod, show i ≠ 0 by omega]
  | n + 1 => by
    obtain ⟨pre, o1, o2, o3, o4⟩ := bld_ok l n
    obtain ⟨pre', i1, i2, i3, i4, i5, i6, i7⟩ := lay_ok (wo l n) (bldN l n) pre 0 [] o1 o1.zero
    rw [bld_succ]
    unfold addw
    generalize hL : lay (bldN l n) 0 (wo l n) = L at *
    obtain ⟨t', a⟩ := L
    simp only at i1 i3 i5 i6 i7 ⊢
    have ha : a < t'.length := by rw [i1.len]; exact (List.getElem?_eq_some_iff.1 i3).1
    refine ⟨pre', ok_mark i1 ha _, fun q => ?_, fun i p hp => ?_, ?_⟩
    · rw [i4, o2]
      constructor
      · rintro ((e | ⟨j, m, hj, hm, e⟩) | ⟨m, hm, e⟩)
        · exact .inl e
        · exact .inr ⟨j, m, by omega, hm, e⟩
        · exact .inr ⟨n, m, by omega, hm, by simpa using e⟩
      · rintro (e | ⟨j, m, hj, hm, e⟩)
        · exact .inl (.inl e)
        · rcases Nat.lt_or_ge j n with h | h
          · exact .inl (.inr ⟨j, m, h, hm, e⟩)
          · obtain rfl : j = n := by omega
            exact .inr ⟨m, hm, by simpa using e⟩
    · have hwa : ∀ i p, pre'[i]? = some p → (nod t' i).wd = fw l n p := fun i p hp => by
        rw [i5 i]
        by_cases hi : i < pre.length
        · have : pre[i]? = some p := by
            obtain ⟨r, rfl⟩ := i2
            rw [List.getElem?_append_left hi] at hp; exact hp
          exact o3 i p this
        · have hn : (nod (bldN l n) i).wd = -1 := by
            have e : (bldN l n)[i]?.getD ⟨[], -1⟩ = ⟨[], -1⟩ := by rw [List.getElem?_eq_none (by rw [o1.len]; omega)]; rfl
            show ((bldN l n)[i]?.getD ⟨[], -1⟩).wd = -1
            rw [e]
          rw [hn]
          rcases fw_spec l p n with ⟨h1, _⟩ | ⟨j, h1, h2, h3, _⟩
          · exact h1.symm
          · exfalso
            have hm : p ∈ pre := (o2 p).2 (.inr ⟨j, (wo l j).length, h2, Nat.le_refl _, by rw [List.take_length]; exact h3.symm⟩)
            obtain ⟨i', hi', e'⟩ := List.getElem_of_mem hm
            have h5 : pre'[i']? = some p := by
              obtain ⟨r, rfl⟩ := i2
              rw [List.getElem?_append_left hi', List.getElem?_eq_getElem hi', e']
            have := nodup_get i1.nd hp h5
            omega
      rw [mark_wd _ ha, hwa a _ i3]
      simp only [List.nil_append]
      by_cases e : i = a
      · subst e
        obtain rfl : p = wo l n := by rw [i3] at hp; simpa using hp.symm
        by_cases h : fw l n (wo l n) = -1
        · rw [if_pos ⟨rfl, h⟩]; simp [fw, h]
        · rw [if_neg (by simp [h]), hwa i _ hp]; simp [fw, h]
      · rw [if_neg (by simp [e]), hwa i _ hp]
        have hne : wo l n ≠ p := fun h => by
          subst h
          exact e (nodup_get i1.nd hp (by simpa using i3))
        by_cases h : fw l n p = -1
        · simp [fw, h, hne]
        · simp [fw, h]
    · rw [mark_len]; simp only [sz]; omega

theorem pre_cl {t : List Nd} {pre : List (List UInt8)} (h : Ok t pre) (p : List UInt8) : ∀ (n : Nat) (s : List UInt8), s.length = n → p ++ s ∈ pre → p ∈ pre
  | 0, s, hs, hm => by
    obtain rfl := List.length_eq_zero_iff.1 hs
    simpa using hm
  | n + 1, s, hs, hm => by
    have hne : s ≠ [] := fun e => by subst e; simp at hs
    have e := List.dropLast_concat_getLast hne
    rw [← e, ← List.append_assoc] at hm
    exact pre_cl h p n s.dropLast (by simp [hs]) (h.cl _ _ hm)
theorem go_iff {t : List Nd} {pre : List (List UInt8)} (h : Ok t pre) : ∀ (s : List UInt8) (a : Nat) (p : List UInt8) (k : Nat), pre[a]? = some p → (go t a s = some k ↔ pre[k]? = some (p ++ s))
  | [], a, p, k, ha => by
    simp only [go, Option.some.injEq, List.append_nil]
    constructor
    · rintro rfl; exact ha
    · intro hk; exact nodup_get h.nd ha hk
  | c :: s, a, p, k, ha => by
    cases hc : edg (nod t a).es c with
    | none =>
      simp only [go, hc]
      constructor
      · intro e; cases e
      · intro hk
        exfalso
        have hm := List.mem_of_getElem? hk
        rw [show p ++ c :: s = (p ++ [c]) ++ s by simp] at hm
        have := pre_cl h (p ++ [c]) s.length s rfl hm
        obtain ⟨i, hi, e⟩ := List.getElem_of_mem this
        have := (h.ed a p ha c (i : Int)).2 ⟨by omega, by rw [Int.toNat_natCast, List.getElem?_eq_getElem hi, e]⟩
        exact edg_none.1 hc _ this rfl
    | some j =>
      obtain ⟨hj0, hj⟩ := (h.ed a p ha c j).1 ((edg_mem (h.so a) c j).1 hc)
      simp only [go, hc]
      rw [go_iff h s j.toNat (p ++ [c]) k hj]
      simp
/-- the word of a text, or -1 -/
def findT (t : List Nd) (s : List UInt8) : Int := match go t 0 s with
  | none => -1
  | some k => (nod t k).wd
theorem find_bld (l : List (List UInt8)) (n : Nat) (s : List UInt8) : findT (bldN l n) s = fw l n s := by
  obtain ⟨pre, o1, o2, o3, _⟩ := bld_ok l n
  unfold findT
  cases hg : go (bldN l n) 0 s with
  | some k => exact o3 k s (by simpa using (go_iff o1 s 0 [] k o1.zero).1 hg)
  | none =>
    rcases fw_spec l s n with ⟨h1, _⟩ | ⟨j, h1, h2, h3, _⟩
    · exact h1.symm
    · exfalso
      have hm : s ∈ pre := (o2 s).2 (.inr ⟨j, (wo l j).length, h2, Nat.le_refl _, by rw [List.take_length]; exact h3.symm⟩)
      obtain ⟨i, hi, e⟩ := List.getElem_of_mem hm
      have := (go_iff o1 s 0 [] i o1.zero).2 (by rw [List.getElem?_eq_getElem hi, e]; rfl)
      rw [hg] at this; cases this
/-- the longest one of the first n beginnings -/
def lgT (f : Nat → Int) : Nat → Int × Nat
  | 0 => (f 0, 0)
  | n + 1 => if f (n + 1) = -1 then lgT f n else (f (n + 1), n + 1)
theorem lgT_spec (f : Nat → Int) : ∀ N, (lgT f N).2 ≤ N ∧ (lgT f N).1 = f (lgT f N).2 ∧ (∀ m, (lgT f N).2 < m → m ≤ N → f m = -1) ∧ (f (lgT f N).2 = -1 → (lgT f N).2 = 0)
  | 0 => ⟨Nat.le_refl _, rfl, fun m h1 h2 => by simp [lgT] at h1; omega, fun _ => rfl⟩
  | n + 1 => by
    obtain ⟨h1, h2, h3, h4⟩ := lgT_spec f n
    by_cases h : f (n + 1) = -1
    · simp only [lgT, if_pos h]
      refine ⟨by omega, h2, fun m hm1 hm2 => ?_, h4⟩
      rcases Nat.lt_or_ge m (n + 1) with hx | hx
      · exact h3 m hm1 (by omega)
      · obtain rfl : m = n + 1 := by omega
        exact h
    · simp only [lgT, if_neg h]
      exact ⟨Nat.le_refl _, trivial, fun m hm1 hm2 => by omega, fun e => absurd e h⟩
theorem lgT_cut {f : Nat → Int} {N M : Nat} (h : M ≤ N) (hf : ∀ m, M < m → m ≤ N → f m = -1) : lgT f N = lgT f M := by
  induction N with
  | zero => obtain rfl : M = 0 := by omega
            rfl
  | succ n ih =>
    by_cases e : M = n + 1
    · rw [e]
    · simp only [lgT]
      rw [if_pos (hf (n + 1) (by omega) (Nat.le_refl _))]
      exact ih (by omega) (fun m h1 h2 => hf m h1 (by omega))
theorem lgT_congr {f g : Nat → Int} : ∀ {N : Nat}, (∀ m, m ≤ N → f m = g m) → lgT f N = lgT g N
  | 0, h => by simp [lgT, h 0 (Nat.le_refl _)]
  | n + 1, h => by
    have ih := lgT_congr (f := f) (g := g) (N := n) (fun m hm => h m (by omega))
    simp only [lgT, ih, h (n + 1) (Nat.le_refl _)]
theorem lgT_uniq {f : Nat → Int} {N n : Nat} (h1 : n ≤ N) (h3 : ∀ m, n < m → m ≤ N → f m = -1) (h4 : f n = -1 → n = 0) : lgT f N = (f n, n) := by
  rw [lgT_cut h1 h3]
  cases n with
  | zero => rfl
  | succ n => simp only [lgT]; rw [if_neg (fun e => by have := h4 e; omega)]
def longT (t : List Nd) (s : List UInt8) : Int × Nat := lgT (fun n => findT t (s.take n)) s.length
theorem go_none_more {t : List Nd} {s : List UInt8} {m n : Nat} (h : go t 0 (s.take m) = none) (hm : m ≤ n) : go t 0 (s.take n) = none := by
  have : s.take n = s.take m ++ (s.take n).drop m := by
    have := List.take_append_drop m (s.take n)
    rw [List.take_take, Nat.min_eq_left hm] at this
    exact this.symm
  rw [this, go_append, h]; rfl
theorem find_none {t : List Nd} {s : List UInt8} (h : go t 0 s = none) : findT t s = -1 := by unfold findT; rw [h]
/-- who goes along a text, up to where no edge leads on, has seen all -/
theorem long_at {t : List Nd} {s : List UInt8} {m : Nat} (hm : m ≤ s.length) (h : m = s.length ∨ go t 0 (s.take (m + 1)) = none) : longT t s = lgT (fun n => findT t (s.take n)) m := by
  unfold longT
  refine lgT_cut hm fun k h1 h2 => ?_
  rcases h with h | h
  · omega
  · exact find_none (go_none_more h (by omega))

/-- two lists without twins that have the same are as long as each other -/
theorem nodup_le {α : Type} [BEq α] [LawfulBEq α] : ∀ (a b : List α), a.Nodup → (∀ x, x ∈ a → x ∈ b) → a.length ≤ b.length
  | [], b, _, _ => by simp
  | x :: a, b, h, hs => by
    obtain ⟨h1, h2⟩ := List.nodup_cons.1 h
    have hx : x ∈ b := hs x (by simp)
    have := nodup_le a (b.erase x) h2 (fun y hy => by
      have hyx : y ≠ x := fun e => by subst e; exact h1 hy
      exact (List.mem_erase_of_ne hyx).2 (hs y (by simp [hy])))
    have hl := List.length_erase_of_mem hx
    have hp : 0 < b.length := List.length_pos_of_mem hx
    simp only [List.length_cons]
    omega
theorem len_same {l m : List (List UInt8)} {n : Nat} (h : ∀ p, (∃ j, j < n ∧ wo l j = p) ↔ (∃ j, j < n ∧ wo m j = p)) : (bldN l n).length = (bldN m n).length := by
  have key : ∀ {l m : List (List UInt8)}, (∀ p, (∃ j, j < n ∧ wo l j = p) → (∃ j, j < n ∧ wo m j = p)) → (bldN l n).length ≤ (bldN m n).length := by
    intro l m h
    obtain ⟨pre, o1, o2, _, _⟩ := bld_ok l n
    obtain ⟨pre', p1, p2, _, _⟩ := bld_ok m n
    rw [o1.len, p1.len]
    refine nodup_le _ _ o1.nd fun x hx => ?_
    rcases (o2 x).1 hx with e | ⟨j, k, hj, hk, e⟩
    · exact (p2 x).2 (.inl e)
    · obtain ⟨i, hi, e2⟩ := h _ ⟨j, hj, rfl⟩
      exact (p2 x).2 (.inr ⟨i, k, hi, by rw [e2]; exact hk, by rw [e2]; exact e⟩)
  exact Nat.le_antisymm (key fun p => (h p).1) (key fun p => (h p).2)
end Go.Proofs.Ythkdjklpegmnnaa.Tri

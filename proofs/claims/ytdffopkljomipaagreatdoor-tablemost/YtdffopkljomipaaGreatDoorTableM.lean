/- Turns in plain Lean: what Compile pushes along its times is just where something else holds than a second ahead. -/
import Derived.WalkKit
namespace Go.Proofs.YtdffopkljomipaaGreatDoor.Tab
set_option linter.unusedVariables false
variable {α : Type}

/-- one time more -/
def push1 (eq : α → α → Bool) (f : Int → α) (T : List (Int × α)) (a : Int) : List (Int × α) :=
  if (match T.getLast? with | some x => eq x.2 (f a) | none => false) then T else T ++ [(a, f a)]
def pushL (eq : α → α → Bool) (f : Int → α) : List (Int × α) → List Int → List (Int × α)
  | T, [] => T
  | T, a :: L => pushL eq f (push1 eq f T a) L
theorem pushL_app (eq : α → α → Bool) (f : Int → α) : ∀ (L M : List Int) (T : List (Int × α)), pushL eq f T (L ++ M) = pushL eq f (pushL eq f T L) M
  | [], M, T => rfl
  | a :: L, M, T => pushL_app eq f L M _
abbrev Up (T : List (Int × α)) : Prop := T.Pairwise fun a b => a.1 < b.1
/-- something else holds than a second ahead -/
def dif (f : Int → α) (t : Int) : Prop := t = 0 ∨ f (t - 1) ≠ f t
structure Inv (f : Int → α) (T : List (Int × α)) (m : Int) : Prop where
  up : Up T
  val : ∀ x ∈ T, x.2 = f x.1 ∧ 0 ≤ x.1 ∧ x.1 ≤ m ∧ dif f x.1
  all : ∀ t, 0 ≤ t → t ≤ m → dif f t → (t, f t) ∈ T
  last : ∃ y, T.getLast? = some y ∧ y.2 = f m
theorem const_on {f : Int → α} {a b : Int} (hab : a ≤ b) (h : ∀ t, a < t → t ≤ b → f (t - 1) = f t) : f a = f b := by
  obtain ⟨n, hn⟩ : ∃ n : Nat, b = a + n := ⟨(b - a).toNat, by omega⟩
  subst hn
  clear hab
  induction n with
  | zero => simp
  | succ n ih =>
    rw [ih (fun t h1 h2 => h t h1 (by omega))]
    have := h (a + (n + 1 : Nat)) (by omega) (by omega)
    rw [← this]
    congr 1
    omega
theorem inv_first {eq : α → α → Bool} (f : Int → α) : Inv f (push1 eq f [] 0) 0 := by
  unfold push1
  refine ⟨by simp, ?_, ?_, ?_⟩
  · intro x hx
    obtain rfl : x = (0, f 0) := by simpa using hx
    exact ⟨rfl, by simp, by simp, .inl rfl⟩
  · intro t h0 h1 _
    obtain rfl : t = 0 := by omega
    simp
  · exact ⟨(0, f 0), by simp, rfl⟩
theorem inv_step {eq : α → α → Bool} (he : ∀ a b, eq a b = true ↔ a = b) {f : Int → α} {T : List (Int × α)} {m a : Int} (h : Inv f T m) (hm : 0 ≤ m) (ha : m ≤ a) (hc : ∀ t, m < t → t < a → f (t - 1) = f t) : Inv f (push1 eq f T a) a := by
  obtain ⟨y, hy, hyf⟩ := h.last
  have key : push1 eq f T a = if eq (f m) (f a) then T else T ++ [(a, f a)] := by unfold push1; rw [hy]; simp only [hyf]
  rw [key]
  by_cases e : f m = f a
  · rw [if_pos ((he _ _).2 e)]
    have hd : ∀ t, m < t → t ≤ a → ¬ dif f t := by
      intro t h1 h2 hd
      rcases hd with h3 | h3
      · omega
      · by_cases h4 : t = a
        · subst h4
          apply h3
          rw [← e]
          exact (const_on (f := f) (a := m) (b := t - 1) (by omega) (fun s g1 g2 => hc s g1 (by omega))).symm
        · exact h3 (hc t h1 (by omega))
    refine ⟨h.up, fun x hx => ?_, fun t h0 h1 h2 => ?_, ⟨y, hy, by rw [hyf, e]⟩⟩
    · obtain ⟨v1, v2, v3, v4⟩ := h.val x hx
      exact ⟨v1, v2, by omega, v4⟩
    · by_cases h3 : t ≤ m
      · exact h.all t h0 h3 h2
      · exact absurd h2 (hd t (by omega) h1)
  · rw [if_neg (fun g => e ((he _ _).1 g))]
    have hlt : m < a := by
      rcases Int.lt_or_eq_of_le ha with g | g
      · exact g
      · rw [g] at e; exact absurd rfl e
    have hfa : f (a - 1) = f m := (const_on (f := f) (a := m) (b := a - 1) (by omega) (fun s g1 g2 => hc s g1 (by omega))).symm
    refine ⟨?_, fun x hx => ?_, fun t h0 h1 h2 => ?_, ⟨(a, f a), by simp, rfl⟩⟩
    · unfold Up
      rw [List.pairwise_append]
      refine ⟨h.up, by simp, ?_⟩
      intro x hx z hz
      obtain rfl : z = (a, f a) := by simpa using hz
      have := (h.val x hx).2.2.1
      show x.1 < a
      omega
    · rcases List.mem_append.1 hx with hx | hx
      · obtain ⟨v1, v2, v3, v4⟩ := h.val x hx
        exact ⟨v1, v2, by omega, v4⟩
      · obtain rfl : x = (a, f a) := by simpa using hx
        exact ⟨rfl, by show 0 ≤ a; omega, Int.le_refl _, .inr (by show f (a - 1) ≠ f a; rw [hfa]; exact e)⟩
    · by_cases h3 : t ≤ m
      · exact List.mem_append.2 (.inl (h.all t h0 h3 h2))
      · by_cases h4 : t = a
        · subst h4; exact List.mem_append.2 (.inr (by simp))
        · rcases h2 with g | g
          · omega
          · exact absurd (hc t (by omega) (by omega)) g
/-- along all times -/
theorem inv_all {eq : α → α → Bool} (he : ∀ a b, eq a b = true ↔ a = b) {f : Int → α} : ∀ (L : List Int) (T : List (Int × α)) (m : Int), Inv f T m → 0 ≤ m → (∀ a ∈ L, m ≤ a) → L.Pairwise (fun a b => a ≤ b) → ∀ (M : Int), (∀ a ∈ L, a ≤ M) → m ≤ M → (∀ t, m < t → t ≤ M → t ∉ L → f (t - 1) = f t) → Inv f (pushL eq f T L) M
  | [], T, m, h, hm, h1, h2, M, h3, h4, h5 => by
    have hc := fun t g1 g2 => h5 t g1 g2 (by simp)
    have e : f m = f M := const_on h4 hc
    obtain ⟨y, hy, hyf⟩ := h.last
    refine ⟨h.up, fun x hx => ?_, fun t h0 h1 h2 => ?_, ⟨y, hy, by rw [hyf, e]⟩⟩
    · obtain ⟨v1, v2, v3, v4⟩ := h.val x hx
      exact ⟨v1, v2, by omega, v4⟩
    · by_cases h6 : t ≤ m
      · exact h.all t h0 h6 h2
      · rcases h2 with g | g
        · omega
        · exact absurd (hc t (by omega) (by omega)) g
  | a :: L, T, m, h, hm, h1, h2, M, h3, h4, h5 => by
    obtain ⟨p1, p2⟩ := List.pairwise_cons.1 h2
    have ha := h1 a (by simp)
    refine inv_all he L (push1 eq f T a) a (inv_step he h hm ha fun t g1 g2 => ?_) (by omega) p1 p2 M (fun b hb => h3 b (by simp [hb])) (h3 a (by simp)) fun t g1 g2 g3 => ?_
    · refine h5 t g1 (by have := h3 a (by simp); omega) fun hm2 => ?_
      rcases List.mem_cons.1 hm2 with g | g
      · omega
      · have := p1 t g; omega
    · exact h5 t (by omega) g2 fun hm2 => by
        rcases List.mem_cons.1 hm2 with g | g
        · omega
        · exact g3 g
theorem up_ext : ∀ {A B : List (Int × α)}, Up A → Up B → (∀ x, x ∈ A ↔ x ∈ B) → A = B
  | [], [], _, _, _ => rfl
  | [], b :: B, _, _, h => absurd ((h b).2 (by simp)) (by simp)
  | a :: A, [], _, _, h => absurd ((h a).1 (by simp)) (by simp)
  | a :: A, b :: B, hA, hB, h => by
    obtain ⟨a1, a2⟩ := List.pairwise_cons.1 hA
    obtain ⟨b1, b2⟩ := List.pairwise_cons.1 hB
    have e : a = b := by
      rcases List.mem_cons.1 ((h a).1 (by simp)) with g | g
      · exact g
      · rcases List.mem_cons.1 ((h b).2 (by simp)) with g2 | g2
        · exact g2.symm
        · have := a1 b g2; have := b1 a g; omega
    subst e
    rw [up_ext a2 b2 fun x => ?_]
    constructor
    · intro hx
      rcases List.mem_cons.1 ((h x).1 (by simp [hx])) with g | g
      · subst g; have := a1 x hx; omega
      · exact g
    · intro hx
      rcases List.mem_cons.1 ((h x).2 (by simp [hx])) with g | g
      · subst g; have := b1 x hx; omega
      · exact g
theorem inv_uniq {f : Int → α} {A B : List (Int × α)} {m : Int} (hA : Inv f A m) (hB : Inv f B m) : A = B := by
  refine up_ext hA.up hB.up fun x => ⟨fun hx => ?_, fun hx => ?_⟩
  · obtain ⟨v1, v2, v3, v4⟩ := hA.val x hx
    have := hB.all x.1 v2 v3 v4
    rw [← v1] at this
    exact this
  · obtain ⟨v1, v2, v3, v4⟩ := hB.val x hx
    have := hA.all x.1 v2 v3 v4
    rw [← v1] at this
    exact this
/-- what the document asks: at each of its times whether something else held a second ahead -/
def pickL (eq : α → α → Bool) (f : Int → α) (L : List Int) : List (Int × α) := (L.filter fun t => t == 0 || !eq (f (t - 1)) (f t)).map fun t => (t, f t)
/-- the two are the same -/
theorem push_pick {eq : α → α → Bool} (he : ∀ a b, eq a b = true ↔ a = b) {f : Int → α} {A' : List (Int × α)} {L : List Int} {M : Int} (hI : Inv f A' M) (hM : 0 ≤ M) (hs : L.Pairwise fun a b => a < b) (hr : ∀ a ∈ L, 0 ≤ a ∧ a ≤ M) (h0 : (0 : Int) ∈ L) (hc : ∀ t, 0 < t → t ≤ M → t ∉ L → f (t - 1) = f t) : pickL eq f L = A' := by
  have hd : ∀ t, ((t == 0 || !eq (f (t - 1)) (f t)) = true) ↔ dif f t := by
    intro t
    unfold dif
    by_cases e : f (t - 1) = f t
    · rw [(he _ _).2 e]; simp [e]
    · have : eq (f (t - 1)) (f t) = false := by
        cases g : eq (f (t - 1)) (f t) with
        | false => rfl
        | true => exact absurd ((he _ _).1 g) e
      rw [this]; simp [e]
  refine up_ext ?_ hI.up fun x => ⟨fun hx => ?_, fun hx => ?_⟩
  · unfold pickL Up
    rw [List.pairwise_map]
    exact (hs.filter _)
  · unfold pickL at hx
    obtain ⟨t, ht, rfl⟩ := List.mem_map.1 hx
    obtain ⟨g1, g2⟩ := List.mem_filter.1 ht
    exact hI.all t (hr t g1).1 (hr t g1).2 ((hd t).1 g2)
  · obtain ⟨v1, v2, v3, v4⟩ := hI.val x hx
    unfold pickL
    refine List.mem_map.2 ⟨x.1, List.mem_filter.2 ⟨?_, (hd x.1).2 v4⟩, by rw [← v1]⟩
    rcases v4 with g | g
    · rw [g]; exact h0
    · by_cases e : x.1 = 0
      · rw [e]; exact h0
      · by_cases hm : x.1 ∈ L
        · exact hm
        · exact absurd (hc x.1 (by omega) v3 hm) g
/-- what holds at a time is what the last turn up to it says -/
theorem inv_look {f : Int → α} {T : List (Int × α)} {M : Int} (h : Inv f T M) {t : Int} (h0 : 0 ≤ t) (h1 : t ≤ M) {x : Int × α} (hx : x ∈ T) (hxt : x.1 ≤ t) (hn : ∀ y ∈ T, y.1 ≤ t → y.1 ≤ x.1) : x.2 = f t := by
  rw [(h.val x hx).1]
  refine const_on hxt fun s g1 g2 => ?_
  by_cases e : f (s - 1) = f s
  · exact e
  · have := hn _ (h.all s (by have := (h.val x hx).2.1; omega) (by omega) (.inr e)) g2
    simp at this
    omega
theorem push_len (eq : α → α → Bool) (f : Int → α) : ∀ (L : List Int) (T : List (Int × α)), (pushL eq f T L).length ≤ T.length + L.length
  | [], T => Nat.le_refl _
  | a :: L, T => by
    have h := push_len eq f L (push1 eq f T a)
    have : (push1 eq f T a).length ≤ T.length + 1 := by
      unfold push1
      generalize (match T.getLast? with | some x => eq x.2 (f a) | none => false) = bb
      cases bb
      · exact Nat.le_of_eq (by simp)
      · exact Nat.le_succ _
    unfold pushL
    simp only [List.length_cons]
    omega
end Go.Proofs.YtdffopkljomipaaGreatDoor.Tab

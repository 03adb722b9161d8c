/- Plain facts on what has begun last: no program is named here. -/
import Derived.KernelRfl
namespace Go.Proofs.YtlmhapbmebnmlabDoor
namespace Lat
/-- one more time n of rule i -/
def step (t : Int) (acc : Int × Int) (i n : Int) : Int × Int := if n ≤ t ∧ (acc.1 < 0 ∨ acc.2 ≤ n) then (i, n) else acc
/-- n years of rule i, from year f on -/
def yrsTo (t : Int) (g : Int → Int) (i f : Int) (acc : Int × Int) : Nat → Int × Int
  | 0 => acc
  | n + 1 => step t (yrsTo t g i f acc n) i (g (f + n))
/-- the first k rules -/
def lat (t : Int) (fs ts : Nat → Int) (g : Nat → Int → Int) : Nat → Int × Int
  | 0 => (-1, 0)
  | k + 1 => yrsTo t (g k) k (fs k) (lat t fs ts g k) (ts k - fs k + 1).toNat

/-- what holds of the last one among those that P tells -/
def Inv (t : Int) (g : Nat → Int → Int) (P : Nat → Int → Prop) (acc : Int × Int) : Prop :=
  (acc = (-1, 0) ∧ ∀ i y, P i y → t < g i y) ∨
  ∃ i y, P i y ∧ acc = ((i : Int), g i y) ∧ g i y ≤ t ∧ ∀ i' y', P i' y' → g i' y' ≤ t → g i' y' < g i y ∨ (g i' y' = g i y ∧ i' ≤ i)

theorem inv_step (t : Int) (g : Nat → Int → Int) (P : Nat → Int → Prop) (acc : Int × Int) (k : Nat) (y : Int) (h : Inv t g P acc) (hk : ∀ i z, P i z → i ≤ k) :
    Inv t g (fun i z => P i z ∨ (i = k ∧ z = y)) (step t acc k (g k y)) := by
  unfold step
  rcases h with ⟨rfl, h⟩ | ⟨i, z, hp, rfl, hle, hall⟩
  · by_cases hn : g k y ≤ t
    · rw [if_pos ⟨hn, Or.inl (by simp)⟩]
      refine .inr ⟨k, y, .inr ⟨rfl, rfl⟩, rfl, hn, ?_⟩
      rintro i' y' (h1 | ⟨rfl, rfl⟩) h2
      · have := h i' y' h1; omega
      · exact .inr ⟨rfl, Nat.le_refl _⟩
    · rw [if_neg (fun h => hn h.1)]
      refine .inl ⟨rfl, ?_⟩
      rintro i' y' (h1 | ⟨rfl, rfl⟩)
      · exact h i' y' h1
      · omega
  · by_cases hn : g k y ≤ t ∧ g i z ≤ g k y
    · rw [if_pos ⟨hn.1, Or.inr hn.2⟩]
      refine .inr ⟨k, y, .inr ⟨rfl, rfl⟩, rfl, hn.1, ?_⟩
      rintro i' y' (h1 | ⟨rfl, rfl⟩) h2
      · have hik := hk i' y' h1
        rcases hall i' y' h1 h2 with h3 | ⟨h3, h4⟩
        · left; omega
        · rcases Int.lt_or_eq_of_le hn.2 with h5 | h5
          · left; omega
          · right; exact ⟨by omega, hik⟩
      · exact .inr ⟨rfl, Nat.le_refl _⟩
    · rw [if_neg (fun h => by rcases h with ⟨a, b | b⟩ <;> simp only at b <;> omega)]
      refine .inr ⟨i, z, .inl hp, rfl, hle, ?_⟩
      rintro i' y' (h1 | ⟨rfl, rfl⟩) h2
      · exact hall i' y' h1 h2
      · left; omega

theorem inv_yrs (t : Int) (g : Nat → Int → Int) (P : Nat → Int → Prop) (acc : Int × Int) (k : Nat) (f : Int) (h : Inv t g P acc) (hk : ∀ i z, P i z → i ≤ k) (n : Nat) :
    Inv t g (fun i z => P i z ∨ (i = k ∧ f ≤ z ∧ z < f + n)) (yrsTo t (g k) k f acc n) := by
  induction n with
  | zero =>
    have e : (fun i z => P i z ∨ (i = k ∧ f ≤ z ∧ z < f + (0 : Nat))) = P := by
      funext i z
      apply propext
      constructor
      · rintro (h1 | ⟨_, h2, h3⟩)
        · exact h1
        · exfalso; omega
      · exact .inl
    rw [e]; exact h
  | succ n ih =>
    have := inv_step t g _ _ k (f + n) ih (by rintro i z (h1 | ⟨rfl, _⟩); · exact hk i z h1
                                              · exact Nat.le_refl _)
    have e : (fun i z => P i z ∨ (i = k ∧ f ≤ z ∧ z < f + ((n + 1 : Nat) : Int))) = (fun i z => (P i z ∨ (i = k ∧ f ≤ z ∧ z < f + (n : Int))) ∨ (i = k ∧ z = f + n)) := by
      funext i z
      apply propext
      constructor
      · rintro (h1 | ⟨h2, h3, h4⟩)
        · exact .inl (.inl h1)
        · by_cases hz : z = f + n
          · exact .inr ⟨h2, hz⟩
          · exact .inl (.inr ⟨h2, h3, by omega⟩)
      · rintro ((h1 | ⟨h2, h3, h4⟩) | ⟨h2, h3⟩)
        · exact .inl h1
        · exact .inr ⟨h2, h3, by omega⟩
        · exact .inr ⟨h2, by omega, by omega⟩
    rw [e]
    exact this

theorem inv_lat (t : Int) (fs ts : Nat → Int) (g : Nat → Int → Int) (k : Nat) : Inv t g (fun i y => i < k ∧ fs i ≤ y ∧ y ≤ ts i) (lat t fs ts g k) := by
  induction k with
  | zero => exact .inl ⟨rfl, fun i y h => absurd h.1 (Nat.not_lt_zero _)⟩
  | succ k ih =>
    have := inv_yrs t g _ _ k (fs k) ih (fun i z h => Nat.le_of_lt h.1) (ts k - fs k + 1).toNat
    have e : (fun i y => i < k + 1 ∧ fs i ≤ y ∧ y ≤ ts i) = (fun i z => (i < k ∧ fs i ≤ z ∧ z ≤ ts i) ∨ (i = k ∧ fs k ≤ z ∧ z < fs k + ((ts k - fs k + 1).toNat : Int))) := by
      funext i z
      apply propext
      constructor
      · rintro ⟨h1, h2, h3⟩
        by_cases hi : i = k
        · subst hi; exact .inr ⟨rfl, h2, by omega⟩
        · exact .inl ⟨by omega, h2, h3⟩
      · rintro (⟨h1, h2, h3⟩ | ⟨rfl, h2, h3⟩)
        · exact ⟨by omega, h2, h3⟩
        · exact ⟨by omega, h2, by omega⟩
    rw [e]
    exact this

/-- what was found is the only one of which Inv holds -/
theorem inv_unique (t : Int) (g : Nat → Int → Int) (P : Nat → Int → Prop) (a b : Int × Int) (h : Inv t g P a) (k : Inv t g P b) : a = b := by
  rcases h with ⟨rfl, h⟩ | ⟨i, y, hp, rfl, hle, hall⟩ <;> rcases k with ⟨rfl, k⟩ | ⟨j, z, kp, rfl, kle, kall⟩
  · rfl
  · have := h j z kp; omega
  · have := k i y hp; omega
  · have h1 := hall j z kp kle
    have h2 := kall i y hp hle
    have : g i y = g j z := by omega
    have e : i = j := by omega
    subst e
    exact Prod.ext rfl (by simp only; omega)
/-- who asks later is not told less -/
theorem inv_mono (t u : Int) (htu : t ≤ u) (g : Nat → Int → Int) (P : Nat → Int → Prop) (a b : Int × Int) (h : Inv t g P a) (k : Inv u g P b) (ha : 0 ≤ a.1) : 0 ≤ b.1 ∧ a.2 ≤ b.2 := by
  rcases h with ⟨rfl, h⟩ | ⟨i, y, hp, rfl, hle, hall⟩
  · simp at ha
  · rcases k with ⟨rfl, k⟩ | ⟨j, z, kp, rfl, kle, kall⟩
    · have := k i y hp; omega
    · have := kall i y hp (by omega)
      simp only
      omega
/-- at the time that was told the same is told -/
theorem inv_again (t : Int) (g : Nat → Int → Int) (P : Nat → Int → Prop) (a : Int × Int) (h : Inv t g P a) (ha : 0 ≤ a.1) : Inv a.2 g P a := by
  rcases h with ⟨rfl, h⟩ | ⟨i, y, hp, rfl, hle, hall⟩
  · simp at ha
  · exact .inr ⟨i, y, hp, rfl, Int.le_refl _, fun i' y' h1 h2 => hall i' y' h1 (by simp only at h2; omega)⟩
end Lat
end Go.Proofs.YtlmhapbmebnmlabDoor

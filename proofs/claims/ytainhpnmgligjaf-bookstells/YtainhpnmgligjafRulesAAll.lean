/- Contracts of package rules: bounds, letters, Std. -/
import Derived.Test.YtainhpnmgligjafPickRAll
import Derived.Deep.RegionHeld3
import Derived.KernelRfl
namespace Go.Proofs.Ytainhpnmgligjaf
open Go Go.RowKit
set_option linter.unusedVariables false

/-- a rule: its years, its month, its day, its second, what it saves, its letters -/
structure Rl where
  f : Int
  t : Int
  m : Int
  k : Int
  wk : Int
  D : Int
  a : Int
  sv : Int
  s : ByteArray
abbrev Rl.v (r : Rl) : Value := .agg #[.int .i64 r.f, .int .i64 r.t, .int .i64 r.m, .int .i64 r.k, .int .i64 r.wk, .int .i64 r.D, .int .i64 r.a, .int .i64 r.sv, .string r.s]
abbrev Rl.cs (r : Rl) : Array Value := #[.int .i64 r.f, .int .i64 r.t, .int .i64 r.m, .int .i64 r.k, .int .i64 r.wk, .int .i64 r.D, .int .i64 r.a, .int .i64 r.sv, .string r.s]

def bnd (r : Rl) : Bool := decide (1970 ≤ r.f ∧ r.f ≤ r.t ∧ r.t ≤ 2029 ∧ 1 ≤ r.m ∧ r.m ≤ 12 ∧ 0 ≤ r.a ∧ r.a ≤ 86400 ∧ 0 ≤ r.sv ∧ r.sv ≤ 7200)
theorem bnd_of {r : Rl} (h : bnd r = true) : 1970 ≤ r.f ∧ r.f ≤ r.t ∧ r.t ≤ 2029 ∧ 1 ≤ r.m ∧ r.m ≤ 12 ∧ 0 ≤ r.a ∧ r.a ≤ 86400 ∧ 0 ≤ r.sv ∧ r.sv ≤ 7200 := by unfold bnd at h; simpa using h
theorem bnd_mk {r : Rl} (h : 1970 ≤ r.f ∧ r.f ≤ r.t ∧ r.t ≤ 2029 ∧ 1 ≤ r.m ∧ r.m ≤ 12 ∧ 0 ≤ r.a ∧ r.a ≤ 86400 ∧ 0 ≤ r.sv ∧ r.sv ≤ 7200) : bnd r = true := by unfold bnd; simpa using h
theorem bnd_no {r : Rl} (h : ¬ (1970 ≤ r.f ∧ r.f ≤ r.t ∧ r.t ≤ 2029 ∧ 1 ≤ r.m ∧ r.m ≤ 12 ∧ 0 ≤ r.a ∧ r.a ≤ 86400 ∧ 0 ≤ r.sv ∧ r.sv ≤ 7200)) : bnd r = false := by unfold bnd; simpa using h

end Go.Proofs.Ytainhpnmgligjaf

/- Contracts of package rules: letters, Std, and the document's own. -/
namespace Go.Proofs.Ytainhpnmgligjaf
open Go Go.RowKit
set_option linter.unusedVariables false

def ltrB (n : Int) : Bool := decide ((65 ≤ n ∧ n ≤ 90) ∨ (97 ≤ n ∧ n ≤ 122))
def allLet (l : List UInt8) : Bool := l.all fun c => ltrB c.toNat
theorem take_snoc (s : ByteArray) (k : Nat) (h : k < s.size) : s.data.toList.take (k + 1) = s.data.toList.take k ++ [s[k]] := by
  rw [List.take_succ_eq_append_getElem (by simpa using h)]; rfl
theorem all_snoc (s : ByteArray) (k : Nat) (h : k < s.size) (h1 : allLet (s.data.toList.take k) = true) (h2 : ltrB (s[k].toNat : Int) = true) : allLet (s.data.toList.take (k + 1)) = true := by
  rw [take_snoc s k h]; unfold allLet at *; rw [List.all_append, h1]; simpa using h2
theorem all_bad (s : ByteArray) (k : Nat) (h : k < s.size) (h2 : ltrB (s[k].toNat : Int) = false) : allLet s.data.toList = false := by
  unfold allLet
  rw [List.all_eq_false]
  exact ⟨s[k], by simp [ByteArray.getElem_eq_getElem_data], by simpa using h2⟩
def letS (s : ByteArray) : Bool := decide (s.size ≤ 12) && allLet s.data.toList
end Go.Proofs.Ytainhpnmgligjaf

/- Contracts of package rules: Check. -/
namespace Go.Proofs.Ytainhpnmgligjaf
open Go Go.RowKit
set_option linter.unusedVariables false
/-- the nine cells of a boxed rule -/
def RBox (v : World) (b : Nat) (r : Rl) : Prop :=
  v.cell? ⟨b, 0, none⟩ = some (.int .i64 r.f) ∧ v.cell? ⟨b, 1, none⟩ = some (.int .i64 r.t) ∧ v.cell? ⟨b, 2, none⟩ = some (.int .i64 r.m) ∧ v.cell? ⟨b, 3, none⟩ = some (.int .i64 r.k) ∧ v.cell? ⟨b, 4, none⟩ = some (.int .i64 r.wk)
  ∧ v.cell? ⟨b, 5, none⟩ = some (.int .i64 r.D) ∧ v.cell? ⟨b, 6, none⟩ = some (.int .i64 r.a) ∧ v.cell? ⟨b, 7, none⟩ = some (.int .i64 r.sv) ∧ v.cell? ⟨b, 8, none⟩ = some (.string r.s)
theorem cell_on {w w' : World} {b o : Nat} {x : Value} (h : w.cell? ⟨b, o, none⟩ = some x) (hb : Below w.heap.size w w') : w'.cell? ⟨b, o, none⟩ = some x := by
  rw [hb.cell (p := ⟨b, o, none⟩) (cell_lt h)]; exact h
theorem RBox.on {w w' : World} {b : Nat} {r : Rl} (h : RBox w b r) (hb : Below w.heap.size w w') : RBox w' b r := by
  obtain ⟨h0, h1, h2, h3, h4, h5, h6, h7, h8⟩ := h
  exact ⟨cell_on h0 hb, cell_on h1 hb, cell_on h2 hb, cell_on h3 hb, cell_on h4 hb, cell_on h5 hb, cell_on h6 hb, cell_on h7 hb, cell_on h8 hb⟩
theorem RBox.lt {w : World} {b : Nat} {r : Rl} (h : RBox w b r) : b < w.heap.size := cell_lt h.1
def yrsOK (r : Rl) : Bool := (List.range (r.t - r.f + 1).toNat).all fun i => findE (r.f + i) r.m r.k r.wk r.D == 0
theorem yrs_iff (r : Rl) : yrsOK r = true ↔ ∀ y, r.f ≤ y → y ≤ r.t → findE y r.m r.k r.wk r.D = 0 := by
  unfold yrsOK
  rw [List.all_eq_true]
  constructor
  · intro h y h1 h2
    have := h (y - r.f).toNat (List.mem_range.2 (by omega))
    have e : r.f + ((y - r.f).toNat : Int) = y := by omega
    rw [e] at this
    simpa using this
  · intro h i hi
    have := List.mem_range.1 hi
    simpa using h (r.f + i) (by omega) (by omega)
/-- what is wrong with a rule -/
def rchk (r : Rl) : Int := if bnd r then (if chk r.k r.wk r.D = 0 then (if letS r.s then (if yrsOK r then 0 else 4) else 5) else chk r.k r.wk r.D) else 3
theorem find_four (y m k wk D : Int) (hy1 : 1970 ≤ y) (hy2 : y ≤ 2029) (hm1 : 1 ≤ m) (hm2 : m ≤ 12) (hk : chk k wk D = 0) (h : findE y m k wk D ≠ 0) : findE y m k wk D = 4 := by
  have lb := Cal.ml_bd y m
  have hok : Cal.okB y m 1 = true := ok_mk (by omega)
  simp only [findE, hk, hok, if_true] at h ⊢
  split at h
  · simp_all
  · exact absurd rfl h
theorem rchk_cases (r : Rl) : (bnd r = false ∧ rchk r = 3) ∨ (bnd r = true ∧ ((chk r.k r.wk r.D ≠ 0 ∧ rchk r = chk r.k r.wk r.D) ∨ (chk r.k r.wk r.D = 0 ∧ ((letS r.s = false ∧ rchk r = 5) ∨ (letS r.s = true ∧ ((yrsOK r = false ∧ rchk r = 4) ∨ (yrsOK r = true ∧ rchk r = 0))))))) := by
  unfold rchk
  cases bnd r
  · exact .inl ⟨rfl, by simp⟩
  · refine .inr ⟨rfl, ?_⟩
    by_cases h : chk r.k r.wk r.D = 0
    · right
      refine ⟨h, ?_⟩
      cases letS r.s
      · exact .inl ⟨rfl, by simp [h]⟩
      · refine .inr ⟨rfl, ?_⟩
        cases yrsOK r
        · exact .inl ⟨rfl, by simp [h]⟩
        · exact .inr ⟨rfl, by simp [h]⟩
    · exact .inl ⟨h, by simp [h]⟩

end Go.Proofs.Ytainhpnmgligjaf

/- Contracts of package rules: begin, At. -/
namespace Go.Proofs.Ytainhpnmgligjaf
open Go Go.RowKit
set_option linter.unusedVariables false

/-- when a rule begins in a year -/
def begR (r : Rl) (y std : Int) : Int := daysR y r.m (findR y r.m r.k r.wk r.D) * 86400 + r.a - std
def atOK (r : Rl) (y std : Int) : Bool := decide (r.f ≤ y ∧ y ≤ r.t) && inB std (-50400) 50400
def atR (r : Rl) (y std : Int) : Int := if rchk r = 0 ∧ atOK r y std = true then begR r y std else 0
def atE (r : Rl) (y std : Int) : Int := if rchk r = 0 then (if atOK r y std then 0 else 3) else rchk r
theorem rchk_bnd {r : Rl} (h : rchk r = 0) : bnd r = true := by
  cases hb : bnd r
  · simp [rchk, hb] at h
  · rfl
end Go.Proofs.Ytainhpnmgligjaf

/- Plain facts on what has begun last: no program is named here. -/
namespace Go.Proofs.Ytainhpnmgligjaf
namespace Lat
/-- one more time n of rule i -/
def step (t : Int) (acc : Int × Int) (i n : Int) : Int × Int := if n ≤ t ∧ (acc.1 < 0 ∨ acc.2 ≤ n) then (i, n) else acc
/-- n years of rule i, from year f on -/
def yrsTo (t : Int) (g : Int → Int) (i f : Int) (acc : Int × Int) : Nat → Int × Int
  | 0 => acc
  | n + 1 => step t (yrsTo t g i f acc n) i (g (f + n))
/-- the first k rules -/
def lat (t : Int) (fs ts : Nat → Int) (g : Nat → Int → Int) : Nat → Int × Int
  | 0 => (-1, 0)
  | k + 1 => yrsTo t (g k) k (fs k) (lat t fs ts g k) (ts k - fs k + 1).toNat

/-- what holds of the last one among those that P tells -/
def Inv (t : Int) (g : Nat → Int → Int) (P : Nat → Int → Prop) (acc : Int × Int) : Prop :=
  (acc = (-1, 0) ∧ ∀ i y, P i y → t < g i y) ∨
  ∃ i y, P i y ∧ acc = ((i : Int), g i y) ∧ g i y ≤ t ∧ ∀ i' y', P i' y' → g i' y' ≤ t → g i' y' < g i y ∨ (g i' y' = g i y ∧ i' ≤ i)

theorem inv_step (t : Int) (g : Nat → Int → Int) (P : Nat → Int → Prop) (acc : Int × Int) (k : Nat) (y : Int) (h : Inv t g P acc) (hk : ∀ i z, P i z → i ≤ k) :
    Inv t g (fun i z => P i z ∨ (i = k ∧ z = y)) (step t acc k (g k y)) := by
  unfold step
  rcases h with ⟨rfl, h⟩ | ⟨i, z, hp, rfl, hle, hall⟩
  · by_cases hn : g k y ≤ t
    · rw [if_pos ⟨hn, Or.inl (by simp)⟩]
      refine .inr ⟨k, y, .inr ⟨rfl, rfl⟩, rfl, hn, ?_⟩
      rintro i' y' (h1 | ⟨rfl, rfl⟩) h2
      · have := h i' y' h1; omega
      · exact .inr ⟨rfl, Nat.le_refl _⟩
    · rw [if_neg (fun h => hn h.1)]
      refine .inl ⟨rfl, ?_⟩
      rintro i' y' (h1 | ⟨rfl, rfl⟩)
      · exact h i' y' h1
      · omega
  · by_cases hn : g k y ≤ t ∧ g i z ≤ g k y
    · rw [if_pos ⟨hn.1, Or.inr hn.2⟩]
      refine .inr ⟨k, y, .inr ⟨rfl, rfl⟩, rfl, hn.1, ?_⟩
      rintro i' y' (h1 | ⟨rfl, rfl⟩) h2
      · have hik := hk i' y' h1
        rcases hall i' y' h1 h2 with h3 | ⟨h3, h4⟩
        · left; omega
        · rcases Int.lt_or_eq_of_le hn.2 with h5 | h5
          · left; omega
          · right; exact ⟨by omega, hik⟩
      · exact .inr ⟨rfl, Nat.le_refl _⟩
    · rw [if_neg (fun h => by rcases h with ⟨a, b | b⟩ <;> simp only at b <;> omega)]
      refine .inr ⟨i, z, .inl hp, rfl, hle, ?_⟩
      rintro i' y' (h1 | ⟨rfl, rfl⟩) h2
      · exact hall i' y' h1 h2
      · left; omega

theorem inv_yrs (t : Int) (g : Nat → Int → Int) (P : Nat → Int → Prop) (acc : Int × Int) (k : Nat) (f : Int) (h : Inv t g P acc) (hk : ∀ i z, P i z → i ≤ k) (n : Nat) :
    Inv t g (fun i z => P i z ∨ (i = k ∧ f ≤ z ∧ z < f + n)) (yrsTo t (g k) k f acc n) := by
  induction n with
  | zero =>
    have e : (fun i z => P i z ∨ (i = k ∧ f ≤ z ∧ z < f + (0 : Nat))) = P := by
      funext i z
      apply propext
      constructor
      · rintro (h1 | ⟨_, h2, h3⟩)
        · exact h1
        · exfalso; omega
      · exact .inl
    rw [e]; exact h
  | succ n ih =>
    have := inv_step t g _ _ k (f + n) ih (by rintro i z (h1 | ⟨rfl, _⟩); · exact hk i z h1
                                              · exact Nat.le_refl _)
    have e : (fun i z => P i z ∨ (i = k ∧ f ≤ z ∧ z < f + ((n + 1 : Nat) : Int))) = (fun i z => (P i z ∨ (i = k ∧ f ≤ z ∧ z < f + (n : Int))) ∨ (i = k ∧ z = f + n)) := by
      funext i z
      apply propext
      constructor
      · rintro (h1 | ⟨h2, h3, h4⟩)
        · exact .inl (.inl h1)
        · by_cases hz : z = f + n
          · exact .inr ⟨h2, hz⟩
          · exact .inl (.inr ⟨h2, h3, by omega⟩)
      · rintro ((h1 | ⟨h2, h3, h4⟩) | ⟨h2, h3⟩)
        · exact .inl h1
        · exact .inr ⟨h2, h3, by omega⟩
        · exact .inr ⟨h2, by omega, by omega⟩
    rw [e]
    exact this

theorem inv_lat (t : Int) (fs ts : Nat → Int) (g : Nat → Int → Int) (k : Nat) : Inv t g (fun i y => i < k ∧ fs i ≤ y ∧ y ≤ ts i) (lat t fs ts g k) := by
  induction k with
  | zero => exact .inl ⟨rfl, fun i y h => absurd h.1 (Nat.not_lt_zero _)⟩
  | succ k ih =>
    have := inv_yrs t g _ _ k (fs k) ih (fun i z h => Nat.le_of_lt h.1) (ts k - fs k + 1).toNat
    have e : (fun i y => i < k + 1 ∧ fs i ≤ y ∧ y ≤ ts i) = (fun i z => (i < k ∧ fs i ≤ z ∧ z ≤ ts i) ∨ (i = k ∧ fs k ≤ z ∧ z < fs k + ((ts k - fs k + 1).toNat : Int))) := by
      funext i z
      apply propext
      constructor
      · rintro ⟨h1, h2, h3⟩
        by_cases hi : i = k
        · subst hi; exact .inr ⟨rfl, h2, by omega⟩
        · exact .inl ⟨by omega, h2, h3⟩
      · rintro (⟨h1, h2, h3⟩ | ⟨rfl, h2, h3⟩)
        · exact ⟨by omega, h2, h3⟩
        · exact ⟨by omega, h2, by omega⟩
    rw [e]
    exact this

/-- what was found is the only one of which Inv holds -/
theorem inv_unique (t : Int) (g : Nat → Int → Int) (P : Nat → Int → Prop) (a b : Int × Int) (h : Inv t g P a) (k : Inv t g P b) : a = b := by
  rcases h with ⟨rfl, h⟩ | ⟨i, y, hp, rfl, hle, hall⟩ <;> rcases k with ⟨rfl, k⟩ | ⟨j, z, kp, rfl, kle, kall⟩
  · rfl
  · have := h j z kp; omega
  · have := k i y hp; omega
  · have h1 := hall j z kp kle
    have h2 := kall i y hp hle
    have : g i y = g j z := by omega
    have e : i = j := by omega
    subst e
    exact Prod.ext rfl (by simp only; omega)
/-- who asks later is not told less -/
theorem inv_mono (t u : Int) (htu : t ≤ u) (g : Nat → Int → Int) (P : Nat → Int → Prop) (a b : Int × Int) (h : Inv t g P a) (k : Inv u g P b) (ha : 0 ≤ a.1) : 0 ≤ b.1 ∧ a.2 ≤ b.2 := by
  rcases h with ⟨rfl, h⟩ | ⟨i, y, hp, rfl, hle, hall⟩
  · simp at ha
  · rcases k with ⟨rfl, k⟩ | ⟨j, z, kp, rfl, kle, kall⟩
    · have := k i y hp; omega
    · have := kall i y hp (by omega)
      simp only
      omega
/-- at the time that was told the same is told -/
theorem inv_again (t : Int) (g : Nat → Int → Int) (P : Nat → Int → Prop) (a : Int × Int) (h : Inv t g P a) (ha : 0 ≤ a.1) : Inv a.2 g P a := by
  rcases h with ⟨rfl, h⟩ | ⟨i, y, hp, rfl, hle, hall⟩
  · simp at ha
  · exact .inr ⟨i, y, hp, rfl, Int.le_refl _, fun i' y' h1 h2 => hall i' y' h1 (by simp only at h2; omega)⟩
end Lat
end Go.Proofs.Ytainhpnmgligjaf

/- Plain facts on rules: when they begin, and which of them has begun last. -/
import Derived.Test.YtdffopkljomipaaGreatDoorRulesL
namespace Go.Proofs.YtdffopkljomipaaGreatDoor
open Go Go.RowKit
set_option linter.unusedVariables false

/-- what is known where a day is found -/
theorem find_spec (y m k wk D : Int) (h : findE y m k wk D = 0) :
    ∃ F L P : Int, findR y m k wk D = P ∧ 28 ≤ L ∧ L ≤ 31 ∧ 0 ≤ F ∧ F + L - 1 < 21915 ∧ 1 ≤ P ∧ P ≤ L ∧ (k = 1 ∧ P = D ∨ k = 2 ∧ (F + P + 3) % 7 = wk ∧ (∀ i, 1 ≤ i → i ≤ L → (F + i + 3) % 7 = wk → i ≤ P) ∧ P = L - (F + L + 3 - wk) % 7 ∨ k = 3 ∧ (F + P + 3) % 7 = wk ∧ (∀ i, D ≤ i → i < P → (F + i + 3) % 7 ≠ wk) ∧ D ≤ P ∧ P ≤ D + 6)
      ∧ (∀ i, 1 ≤ i → i ≤ L → daysE y m i = 0 ∧ daysR y m i = F + i - 1 ∧ weekE (F + i - 1) = 0 ∧ weekR (F + i - 1) = (F + i + 3) % 7) ∧ (∀ i, L < i → daysE y m i = 3) := by
  have hc : chk k wk D = 0 := by
    by_cases hc : chk k wk D = 0
    · exact hc
    · simp only [findE, hc, if_false] at h
  have hok : Cal.okB y m 1 = true := by
    cases hok : Cal.okB y m 1
    · simp [findE, hc, hok] at h
    · rfl
  have hP : pickd k wk D (Cal.ml y m) (Cal.num y m 1) ≠ 0 := by
    intro e
    simp [findE, hc, hok, e] at h
  have hR : findR y m k wk D = pickd k wk D (Cal.ml y m) (Cal.num y m 1) := by simp [findR, hok, hc]
  obtain ⟨y1, y2, m1, m2, _, _⟩ := ok_of hok
  have hlb := Cal.ml_bd y m
  have hd : ∀ j, 1 ≤ j → j ≤ Cal.ml y m → daysE y m j = 0 ∧ daysR y m j = Cal.num y m 1 + j - 1 := by
    intro j h1 h2
    have : Cal.okB y m j = true := ok_mk (by omega)
    exact ⟨by simp [daysE, this], by simp only [daysR, this, if_true, Cal.num]; omega⟩
  have hn : ∀ j, Cal.ml y m < j → daysE y m j = 3 := by
    intro j h1
    have : Cal.okB y m j = false := ok_not (by omega)
    simp [daysE, this]
  have hb1 := daysR_bd y m 1
  have hb2 := daysR_bd y m (Cal.ml y m)
  rw [(hd _ (by omega) (by omega)).2] at hb1 hb2
  generalize Cal.num y m 1 = F at *
  generalize Cal.ml y m = L at *
  have h3 : k = 1 ∨ k = 2 ∨ k = 3 := by unfold chk at hc; omega
  have hw : ∀ i, 1 ≤ i → i ≤ L → daysE y m i = 0 ∧ daysR y m i = F + i - 1 ∧ weekE (F + i - 1) = 0 ∧ weekR (F + i - 1) = (F + i + 3) % 7 := by
    intro i h1 h2
    have hday : Cal.dayB (F + i - 1) = true := day_mk (by omega)
    refine ⟨(hd i h1 h2).1, (hd i h1 h2).2, by simp [weekE, hday], ?_⟩
    simp only [weekR, hday, if_true]
    rw [show F + i - 1 + 4 = F + i + 3 from by omega]
  refine ⟨F, L, pickd k wk D L F, hR, hlb.1, hlb.2, by omega, by omega, ?_, ?_, ?_, hw, hn⟩
  · unfold chk at hc; rcases h3 with rfl | rfl | rfl <;> (unfold pickd at *; simp only [Int.reduceEq, if_false, if_true] at *; omega)
  · unfold chk at hc; rcases h3 with rfl | rfl | rfl <;> (unfold pickd at *; simp only [Int.reduceEq, if_false, if_true] at *; omega)
  · unfold chk at hc
    rcases h3 with rfl | rfl | rfl
    · left
      refine ⟨rfl, ?_⟩
      simp only [pickd, if_true] at hP ⊢
      by_cases hDL : D ≤ L
      · rw [if_pos hDL]
      · rw [if_neg hDL] at hP; exact absurd rfl hP
    · right; left
      unfold pickd at *; simp only [Int.reduceEq, if_false, if_true] at *
      exact ⟨trivial, by omega, fun i h1 h2 h3 => by omega, trivial⟩
    · right; right
      unfold pickd at *; simp only [Int.reduceEq, if_false] at *
      by_cases hl : D + (wk - (F + D + 3)) % 7 ≤ L
      · rw [if_pos hl] at *
        exact ⟨trivial, by omega, fun i h1 h2 => by omega, by omega, by omega⟩
      · rw [if_neg hl] at hP; exact absurd rfl hP


theorem rchk_yrs {r : Rl} (h : rchk r = 0) : ∀ y, r.f ≤ y → y ≤ r.t → findE y r.m r.k r.wk r.D = 0 := by
  rcases rchk_cases r with ⟨_, h1⟩ | ⟨_, ⟨h0, h1⟩ | ⟨_, ⟨_, h1⟩ | ⟨_, ⟨_, h1⟩ | ⟨h2, _⟩⟩⟩⟩
  · rw [h] at h1; omega
  · rw [h] at h1; exact absurd h1.symm h0
  · rw [h] at h1; omega
  · rw [h] at h1; omega
  · exact (yrs_iff r).1 h2
/-- A rule begins later from year to year. -/
theorem beg_next {r : Rl} (h : rchk r = 0) (y std : Int) (h1 : r.f ≤ y) (h2 : y + 1 ≤ r.t) : begR r y std < begR r (y + 1) std := by
  have hb := bnd_of (rchk_bnd h)
  obtain ⟨F, L, P, e1, a1, a2, a3, a4, a5, a6, _, hall, _⟩ := find_spec y r.m r.k r.wk r.D (rchk_yrs h y h1 (by omega))
  obtain ⟨F', L', P', e1', a1', a2', a3', a4', a5', a6', _, hall', _⟩ := find_spec (y + 1) r.m r.k r.wk r.D (rchk_yrs h (y + 1) (by omega) h2)
  have d1 := (hall P a5 a6).1
  have d2 := (hall' P' a5' a6').1
  have ok1 : Cal.okB y r.m P = true := by
    cases hk : Cal.okB y r.m P
    · simp [daysE, hk] at d1
    · rfl
  have ok2 : Cal.okB (y + 1) r.m P' = true := by
    cases hk : Cal.okB (y + 1) r.m P'
    · simp [daysE, hk] at d2
    · rfl
  unfold begR
  rw [e1, e1']
  simp only [daysR, ok1, ok2, if_true, Cal.num]
  have s := Cal.ahead_succ y
  have l := Cal.lp01 y
  have c1 : Cal.cum y r.m ≤ Cal.cum (y + 1) r.m + 1 := by unfold Cal.cum Cal.lp; omega
  omega
theorem beg_std (r : Rl) (y std : Int) : begR r y (std - 3600) = begR r y std + 3600 := by unfold begR; omega
/-- what Last tells, told by what holds of it -/
theorem last_ok (rs : Nat → Rl) (n : Nat) (std t : Int) (h : lastE rs n std t = 0) :
    n ≤ 4 ∧ (∀ j, j < n → rchk (rs j) = 0) ∧ -50400 ≤ std ∧ std ≤ 50400 ∧ 0 ≤ t ∧ t < 1893456000 ∧ latR rs std t n = (lastK rs n std t, lastN rs n std t) ∧ 0 ≤ lastK rs n std t := by
  rcases last_cases rs n std t with ⟨_, h1, _⟩ | ⟨h4, h'⟩
  · omega
  · rcases h' with ⟨h0, h1, _⟩ | ⟨hf, h'⟩
    · omega
    · rcases h' with ⟨_, h1, _⟩ | ⟨hs, h'⟩
      · omega
      · rcases h' with ⟨_, h1, _⟩ | ⟨ht, h'⟩
        · omega
        · rcases h' with ⟨_, h1, _⟩ | ⟨hl, h1, h2, h3⟩
          · omega
          · have a := in_of hs
            have b := in_of ht
            exact ⟨h4, first_zero rs n hf, a.1, a.2, b.1, by omega, by rw [h2, h3], by omega⟩
theorem first_all (rs : Nat → Rl) (n : Nat) (h : ∀ j, j < n → rchk (rs j) = 0) : firstErr rs n = 0 := by
  induction n with
  | zero => rfl
  | succ k ih => exact first_next rs k (ih fun j hj => h j (by omega)) (h k (by omega))
/-- what Last tells of right rules, at a time that there is -/
theorem last_eval (rs : Nat → Rl) (n : Nat) (std t : Int) (h4 : n ≤ 4) (hr : ∀ j, j < n → rchk (rs j) = 0) (s1 : -50400 ≤ std) (s2 : std ≤ 50400) :
    ((t < 0 ∨ 1893456000 ≤ t) ∧ lastE rs n std t = 3) ∨ (0 ≤ t ∧ t < 1893456000 ∧ (((latR rs std t n).1 < 0 ∧ lastE rs n std t = 4) ∨ (0 ≤ (latR rs std t n).1 ∧ lastE rs n std t = 0))) := by
  rcases last_cases rs n std t with ⟨h, _⟩ | ⟨_, h'⟩
  · omega
  · rcases h' with ⟨h, _⟩ | ⟨_, h'⟩
    · exact absurd (first_all rs n hr) h
    · rcases h' with ⟨hs, _⟩ | ⟨_, h'⟩
      · rw [in_mk ⟨s1, s2⟩] at hs; cases hs
      · rcases h' with ⟨ht, h1, _⟩ | ⟨ht, h'⟩
        · left; exact ⟨by unfold inB at ht; simp at ht; omega, h1⟩
        · right
          have := in_of ht
          refine ⟨this.1, by omega, ?_⟩
          rcases h' with ⟨hl, h1, _⟩ | ⟨hl, h1, _⟩
          · exact .inl ⟨hl, h1⟩
          · exact .inr ⟨by omega, h1⟩
abbrev InvR (rs : Nat → Rl) (n : Nat) (std t : Int) (acc : Int × Int) : Prop := Lat.Inv t (fun i y => begR (rs i) y std) (fun i y => i < n ∧ (rs i).f ≤ y ∧ y ≤ (rs i).t) acc
theorem inv_latR (rs : Nat → Rl) (n : Nat) (std t : Int) : InvR rs n std t (latR rs std t n) := Lat.inv_lat t (fun i => (rs i).f) (fun i => (rs i).t) (fun i y => begR (rs i) y std) n
/-- the later time's answer, by the earlier one's -/
theorem last_later (rs : Nat → Rl) (n : Nat) (std one two : Int) (h : lastE rs n std one = 0) :
    (lastE rs n std two = 0 ∧ (one ≤ two → lastN rs n std one ≤ lastN rs n std two)) ∨ lastE rs n std two = 3 ∨ (lastE rs n std two = 4 ∧ two < one) := by
  obtain ⟨h4, hr, s1, s2, t1, t2, hl, hk⟩ := last_ok rs n std one h
  rcases last_eval rs n std two h4 hr s1 s2 with ⟨_, h3⟩ | ⟨u1, u2, ⟨hn, h3⟩ | ⟨hn, h3⟩⟩
  · exact .inr (.inl h3)
  · right; right
    refine ⟨h3, ?_⟩
    rcases Int.lt_or_le two one with hlt | hge
    · exact hlt
    · have := Lat.inv_mono one two hge _ _ _ _ (inv_latR rs n std one) (inv_latR rs n std two) (by rw [hl]; exact hk)
      omega
  · left
    refine ⟨h3, fun hle => ?_⟩
    have := Lat.inv_mono one two hle _ _ _ _ (inv_latR rs n std one) (inv_latR rs n std two) (by rw [hl]; exact hk)
    rw [(last_ok rs n std two h3).2.2.2.2.2.2.1, hl] at this
    exact this.2
/-- which rule was told, and when it begins -/
theorem last_which (rs : Nat → Rl) (n : Nat) (std t : Int) (h : lastE rs n std t = 0) :
    ∃ k : Nat, k < n ∧ lastK rs n std t = k ∧ lastN rs n std t ≤ t ∧ (∃ y, (rs k).f ≤ y ∧ y ≤ (rs k).t ∧ begR (rs k) y std = lastN rs n std t) ∧
      (0 ≤ lastN rs n std t → lastE rs n std (lastN rs n std t) = 0 ∧ lastK rs n std (lastN rs n std t) = k ∧ lastN rs n std (lastN rs n std t) = lastN rs n std t) := by
  obtain ⟨h4, hr, s1, s2, t1, t2, hl, hk⟩ := last_ok rs n std t h
  have hi := inv_latR rs n std t
  have ha := Lat.inv_again t _ _ _ hi (by rw [hl]; exact hk)
  rw [hl] at hi ha
  rcases hi with ⟨e, _⟩ | ⟨k, y, ⟨p1, p2, p3⟩, e, hle, _⟩
  · have := congrArg Prod.fst e; simp only at this; omega
  · have e1 := congrArg Prod.fst e
    have e2 := congrArg Prod.snd e
    simp only at e1 e2
    have hle' : begR (rs k) y std ≤ t := hle
    clear hle
    refine ⟨k, p1, e1, by omega, ⟨y, p2, p3, e2.symm⟩, ?_⟩
    intro h0
    have hu := Lat.inv_unique _ _ _ _ _ (inv_latR rs n std (lastN rs n std t)) ha
    rcases last_eval rs n std (lastN rs n std t) h4 hr s1 s2 with ⟨q, _⟩ | ⟨_, _, ⟨q, _⟩ | ⟨_, q⟩⟩
    · omega
    · rw [hu] at q; simp only at q; omega
    · have := (last_ok rs n std (lastN rs n std t) q).2.2.2.2.2.2.1
      rw [hu] at this
      have g1 := congrArg Prod.fst this
      have g2 := congrArg Prod.snd this
      simp only at g1 g2
      exact ⟨q, by omega, g2.symm⟩
theorem choose_any (c n : Int) (w : World) (hn : 0 < n) (hc : -9223372036854775808 ≤ c) (hc2 : c ≤ 9223372036854775807) :
    Calls Tryz.prog 14 #[.int .i64 c, .int .i64 n] w fun e w' => e = .returned (.int .i64 (cho c n)) ∧ w' = w := by
  by_cases h : c < 0
  · go_enter Tryz.func14, Tryz.ntmps14
    go_wp2
    go_ret
    exact ⟨ret_int (by unfold cho; rw [if_pos h, ← Int.neg_tmod, Int.tmod_eq_emod_of_nonneg (by omega)]), rfl⟩
  · go_enter Tryz.func14, Tryz.ntmps14
    go_wp2
    go_ret
    exact ⟨ret_int (by unfold cho; rw [if_neg (by omega)]), rfl⟩
end Go.Proofs.YtdffopkljomipaaGreatDoor

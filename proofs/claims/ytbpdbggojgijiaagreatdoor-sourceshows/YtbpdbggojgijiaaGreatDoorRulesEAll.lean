/- Contracts of package rules: latest. -/
import Derived.Test.YtbpdbggojgijiaaGreatDoorRulesAAll
namespace Go.Proofs.YtbpdbggojgijiaaGreatDoor
open Go Go.RowKit
set_option linter.unusedVariables false

/-- nine cells of a rule, from offset o on -/
def RAt (v : World) (b o : Nat) (r : Rl) : Prop :=
  v.cell? ⟨b, o, none⟩ = some (.int .i64 r.f) ∧ v.cell? ⟨b, o + 1, none⟩ = some (.int .i64 r.t) ∧ v.cell? ⟨b, o + 2, none⟩ = some (.int .i64 r.m) ∧ v.cell? ⟨b, o + 3, none⟩ = some (.int .i64 r.k) ∧ v.cell? ⟨b, o + 4, none⟩ = some (.int .i64 r.wk)
  ∧ v.cell? ⟨b, o + 5, none⟩ = some (.int .i64 r.D) ∧ v.cell? ⟨b, o + 6, none⟩ = some (.int .i64 r.a) ∧ v.cell? ⟨b, o + 7, none⟩ = some (.int .i64 r.sv) ∧ v.cell? ⟨b, o + 8, none⟩ = some (.string r.s)
theorem RAt.on {w w' : World} {b o : Nat} {r : Rl} (h : RAt w b o r) (hb : Below w.heap.size w w') : RAt w' b o r := by
  obtain ⟨h0, h1, h2, h3, h4, h5, h6, h7, h8⟩ := h
  exact ⟨cell_on h0 hb, cell_on h1 hb, cell_on h2 hb, cell_on h3 hb, cell_on h4 hb, cell_on h5 hb, cell_on h6 hb, cell_on h7 hb, cell_on h8 hb⟩
/-- n rules in a row -/
def Row (v : World) (b off n : Nat) (rs : Nat → Rl) : Prop := ∀ j, j < n → RAt v b (off + j * 9) (rs j)
theorem Row.on {w w' : World} {b off n : Nat} {rs : Nat → Rl} (h : Row w b off n rs) (hb : Below w.heap.size w w') : Row w' b off n rs := fun j hj => (h j hj).on hb

abbrev latR (rs : Nat → Rl) (std t : Int) (n : Nat) : Int × Int := Lat.lat t (fun i => (rs i).f) (fun i => (rs i).t) (fun i y => begR (rs i) y std) n
abbrev yrsR (rs : Nat → Rl) (std t : Int) (j i : Nat) : Int × Int := Lat.yrsTo t (fun y => begR (rs j) y std) j (rs j).f (latR rs std t j) i
theorem beg_bd (r : Rl) (y std : Int) (h1 : 0 ≤ r.a) (h2 : r.a ≤ 86400) (h3 : -50400 ≤ std) (h4 : std ≤ 50400) : -50400 ≤ begR r y std ∧ begR r y std ≤ 2000000000 := by
  have := daysR_bd y r.m (findR y r.m r.k r.wk r.D)
  unfold begR; omega
theorem step_pos (t : Int) (W N i n : Int) (h : n ≤ t) (k : W < 0 ∨ N ≤ n) : Lat.step t (W, N) i n = (i, n) := by unfold Lat.step; rw [if_pos ⟨h, k⟩]
theorem step_neg (t : Int) (W N i n : Int) (h : ¬ (n ≤ t ∧ (W < 0 ∨ N ≤ n))) : Lat.step t (W, N) i n = (W, N) := by unfold Lat.step; rw [if_neg h]

end Go.Proofs.YtbpdbggojgijiaaGreatDoor

/- Contracts of package rules: Last. -/
namespace Go.Proofs.YtbpdbggojgijiaaGreatDoor
open Go Go.RowKit
set_option linter.unusedVariables false

/-- the first error of n rules -/
def firstErr (rs : Nat → Rl) : Nat → Int
  | 0 => 0
  | k + 1 => if firstErr rs k = 0 then rchk (rs k) else firstErr rs k
theorem first_zero (rs : Nat → Rl) (n : Nat) (h : firstErr rs n = 0) : ∀ j, j < n → rchk (rs j) = 0 := by
  induction n with
  | zero => intro j hj; omega
  | succ k ih =>
    intro j hj
    unfold firstErr at h
    by_cases h0 : firstErr rs k = 0
    · rw [if_pos h0] at h
      by_cases hjk : j = k
      · subst hjk; exact h
      · exact ih h0 j (by omega)
    · rw [if_neg h0] at h; exact absurd h h0
theorem first_stop (rs : Nat → Rl) (j n : Nat) (h0 : firstErr rs j = 0) (hc : rchk (rs j) ≠ 0) (hjn : j < n) : firstErr rs n = rchk (rs j) := by
  induction n with
  | zero => omega
  | succ k ih =>
    unfold firstErr
    by_cases hjk : j = k
    · subst hjk; rw [if_pos h0]
    · rw [ih (by omega), if_neg hc]
theorem first_next (rs : Nat → Rl) (j : Nat) (h0 : firstErr rs j = 0) (hc : rchk (rs j) = 0) : firstErr rs (j + 1) = 0 := by
  unfold firstErr; rw [if_pos h0, hc]

def lastE (rs : Nat → Rl) (n : Nat) (std t : Int) : Int :=
  if 4 < n then 2 else if firstErr rs n ≠ 0 then firstErr rs n else if inB std (-50400) 50400 = false ∨ inB t 0 1893455999 = false then 3 else if (latR rs std t n).1 < 0 then 4 else 0
def lastK (rs : Nat → Rl) (n : Nat) (std t : Int) : Int := if lastE rs n std t = 0 then (latR rs std t n).1 else 0
def lastN (rs : Nat → Rl) (n : Nat) (std t : Int) : Int := if lastE rs n std t = 0 then (latR rs std t n).2 else 0
theorem ret_iii {a b c d e f : Int} (h : a = b) (k : c = d) (l : e = f) : Ending.returned (.tuple #[.int .i64 a, .int .i64 c, .int .i64 e]) = .returned (.tuple #[.int .i64 b, .int .i64 d, .int .i64 f]) := by rw [h, k, l]

/-- what Last answers, case by case -/
theorem last_cases (rs : Nat → Rl) (n : Nat) (std t : Int) :
    (4 < n ∧ lastE rs n std t = 2 ∧ lastK rs n std t = 0 ∧ lastN rs n std t = 0) ∨
    (n ≤ 4 ∧ ((firstErr rs n ≠ 0 ∧ lastE rs n std t = firstErr rs n ∧ lastK rs n std t = 0 ∧ lastN rs n std t = 0) ∨
      (firstErr rs n = 0 ∧ ((inB std (-50400) 50400 = false ∧ lastE rs n std t = 3 ∧ lastK rs n std t = 0 ∧ lastN rs n std t = 0) ∨
        (inB std (-50400) 50400 = true ∧ ((inB t 0 1893455999 = false ∧ lastE rs n std t = 3 ∧ lastK rs n std t = 0 ∧ lastN rs n std t = 0) ∨
          (inB t 0 1893455999 = true ∧ (((latR rs std t n).1 < 0 ∧ lastE rs n std t = 4 ∧ lastK rs n std t = 0 ∧ lastN rs n std t = 0) ∨
            (¬ (latR rs std t n).1 < 0 ∧ lastE rs n std t = 0 ∧ lastK rs n std t = (latR rs std t n).1 ∧ lastN rs n std t = (latR rs std t n).2))))))))) := by
  unfold lastK lastN
  by_cases h4 : 4 < n
  · have e : lastE rs n std t = 2 := by simp [lastE, h4]
    rw [e]; exact .inl ⟨h4, rfl, by simp, by simp⟩
  · right
    refine ⟨by omega, ?_⟩
    by_cases hf : firstErr rs n = 0
    · right
      refine ⟨hf, ?_⟩
      cases hs : inB std (-50400) 50400
      · have e : lastE rs n std t = 3 := by simp [lastE, h4, hf, hs]
        rw [e]; exact .inl ⟨rfl, rfl, by simp, by simp⟩
      · right
        refine ⟨rfl, ?_⟩
        cases ht : inB t 0 1893455999
        · have e : lastE rs n std t = 3 := by simp [lastE, h4, hf, ht]
          rw [e]; exact .inl ⟨rfl, rfl, by simp, by simp⟩
        · right
          refine ⟨rfl, ?_⟩
          by_cases hl : (latR rs std t n).1 < 0
          · have e : lastE rs n std t = 4 := by simp only [lastE, h4, hf, hs, ht, hl, if_true, if_false, ne_eq, not_true, Bool.true_eq_false, or_self]
            rw [e]; exact .inl ⟨hl, rfl, by simp, by simp⟩
          · have e : lastE rs n std t = 0 := by simp only [lastE, h4, hf, hs, ht, hl, if_false, ne_eq, not_true, Bool.true_eq_false, or_self]
            rw [e]; exact .inr ⟨hl, rfl, by simp, by simp⟩
    · left
      have e : lastE rs n std t = firstErr rs n := by simp [lastE, h4, hf]
      rw [e]; exact ⟨hf, rfl, by simp [hf], by simp [hf]⟩

end Go.Proofs.YtbpdbggojgijiaaGreatDoor

/- Contracts of the document's own answers on rules: letters, CheckRule, begins, AtOf. -/
namespace Go.Proofs.YtbpdbggojgijiaaGreatDoor
open Go Go.RowKit
set_option linter.unusedVariables false

set_option maxHeartbeats 1000000 in
theorem letters_c (s : ByteArray) (w : World) (hs : s.size ≤ maxLen) : Calls Tryz.prog 37 #[.string s] w fun e w' => e = .returned (.bool (allLet s.data.toList)) ∧ w' = w := by
  unfold maxLen at hs
  go_enter Tryz.func37, Tryz.ntmps37
  go_wp2_with fail
  go_loop [3] (fun i => ∃ k : Nat, k ≤ s.size ∧ i = .int .i64 k ∧ Hid (allLet (s.data.toList.take k) = true)) (fun i => s.size - (intOf i).toNat)
  case atStart => exact ⟨0, Nat.zero_le _, rfl, rfl⟩
  case round =>
    obtain ⟨k, hk, rfl, HA⟩ := hrel
    by_cases hlt : k < s.size
    · have hb : (s[k].toNat : Int) < 65 ∨ (65 ≤ (s[k].toNat : Int) ∧ (s[k].toNat : Int) ≤ 90) ∨ (90 < (s[k].toNat : Int) ∧ (s[k].toNat : Int) < 97) ∨ (97 ≤ (s[k].toNat : Int) ∧ (s[k].toNat : Int) ≤ 122) ∨ (122 < (s[k].toNat : Int)) := by omega
      have hgood : ltrB (s[k].toNat : Int) = true → Hid (allLet (s.data.toList.take (k + 1)) = true) := fun h => all_snoc s k hlt HA.out h
      have hbad : ltrB (s[k].toNat : Int) = false → Hid (allLet s.data.toList = false) := fun h => all_bad s k hlt h
      rcases hb with h | ⟨h, h'⟩ | ⟨h, h'⟩ | ⟨h, h'⟩ | h
      · have HB := hbad (by unfold ltrB; simp; omega)
        clear hgood hbad
        go_wp2_with fail
        go_ret
        exact ⟨ret_bool HB.out.symm, rfl⟩
      · have HG := hgood (by unfold ltrB; simp; omega)
        clear hgood hbad
        go_wp2_with fail
        go_round
        case rel => exact ⟨k + 1, by omega, by go_num, HG⟩
        case measure => simp [intOf]; omega
      · have HB := hbad (by unfold ltrB; simp; omega)
        have d1 : decide ((s[k].toNat : Int) ≤ 90) = false := by simp; omega
        clear hgood hbad
        go_wp2_with fail
        go_ret
        exact ⟨ret_bool HB.out.symm, rfl⟩
      · have HG := hgood (by unfold ltrB; simp; omega)
        clear hgood hbad
        go_wp2_with fail
        go_round
        case rel => exact ⟨k + 1, by omega, by go_num, HG⟩
        case measure => simp [intOf]; omega
      · have HB := hbad (by unfold ltrB; simp; omega)
        have d1 : decide ((s[k].toNat : Int) ≤ 90) = false := by simp; omega
        have d2 : decide ((s[k].toNat : Int) ≤ 122) = false := by simp; omega
        clear hgood hbad
        go_wp2_with fail
        go_ret
        exact ⟨ret_bool HB.out.symm, rfl⟩
    · go_wp2_with fail
      go_ret
      exact ⟨ret_bool (by have := HA.out; rw [List.take_of_length_le (by simp; omega)] at this; exact this.symm), rfl⟩

theorem bnd_cases (r : Rl) : (bnd r = true ∧ Cal.yrB r.f = true ∧ Cal.yrB r.t = true ∧ r.f ≤ r.t ∧ Cal.moB r.m = true ∧ inB r.a 0 86400 = true ∧ inB r.sv 0 7200 = true) ∨
    (bnd r = false ∧ (Cal.yrB r.f = false ∨ (Cal.yrB r.f = true ∧ (Cal.yrB r.t = false ∨ (Cal.yrB r.t = true ∧ (r.t < r.f ∨ (r.f ≤ r.t ∧ (Cal.moB r.m = false ∨ (Cal.moB r.m = true ∧ (inB r.a 0 86400 = false ∨ (inB r.a 0 86400 = true ∧ inB r.sv 0 7200 = false))))))))))) := by
  cases h1 : Cal.yrB r.f
  · exact .inr ⟨bnd_no (by have := yr_not h1; omega), .inl rfl⟩
  · cases h2 : Cal.yrB r.t
    · exact .inr ⟨bnd_no (by have := yr_not h2; have := yr_of h1; omega), .inr ⟨rfl, .inl rfl⟩⟩
    · by_cases h3 : r.t < r.f
      · exact .inr ⟨bnd_no (by omega), .inr ⟨rfl, .inr ⟨rfl, .inl h3⟩⟩⟩
      · cases h4 : Cal.moB r.m
        · exact .inr ⟨bnd_no (by have := mo_not h4; omega), .inr ⟨rfl, .inr ⟨rfl, .inr ⟨by omega, .inl rfl⟩⟩⟩⟩
        · rcases in_cases r.a 0 86400 with ⟨h5, h5'⟩ | ⟨h5, h5'⟩
          · rcases in_cases r.sv 0 7200 with ⟨h6, h6'⟩ | ⟨h6, h6'⟩
            · exact .inl ⟨bnd_mk (by have := yr_of h1; have := yr_of h2; have := mo_of h4; omega), rfl, rfl, by omega, rfl, h5, h6⟩
            · exact .inr ⟨bnd_no (by omega), .inr ⟨rfl, .inr ⟨rfl, .inr ⟨by omega, .inr ⟨rfl, .inr ⟨h5, h6⟩⟩⟩⟩⟩⟩
          · exact .inr ⟨bnd_no (by omega), .inr ⟨rfl, .inr ⟨rfl, .inr ⟨by omega, .inr ⟨rfl, .inl h5⟩⟩⟩⟩⟩

set_option maxHeartbeats 8000000 in
theorem CheckRule_no (r : Rl) (w : World) (hb : bnd r = false) : Calls Tryz.prog 20 #[r.v] w fun e w' => e = .returned (.int .i64 3) ∧ Below w.heap.size w w' := by
  rcases bnd_cases r with ⟨h, _⟩ | ⟨_, h⟩
  · rw [hb] at h; cases h
  · clear hb
    rcases h with h1 | ⟨h1, h2 | ⟨h2, h3 | ⟨h3, h4 | ⟨h4, h5 | ⟨h5, h6⟩⟩⟩⟩⟩
    all_goals
      go_enter Tryz.func20, Tryz.ntmps20
      go_wp2_with (first
        | (go_at_call 38; refine (IsYear_c _ _).mono ?_; rintro e w' ⟨rfl, rfl⟩)
        | (go_at_call 39; refine (RisMonth_c _ _).mono ?_; rintro e w' ⟨rfl, rfl⟩)
        | (go_at_call 17; refine (within_c _ _ _ _).mono ?_; rintro e w' ⟨rfl, rfl⟩))
      go_ret
      exact ⟨rfl, (Below.refl _ _).alloc (Nat.le_refl _) _⟩
end Go.Proofs.YtbpdbggojgijiaaGreatDoor

/- Contracts of the document's own answers on rules: CheckRule, begins, AtOf. -/
namespace Go.Proofs.YtbpdbggojgijiaaGreatDoor
open Go Go.RowKit
set_option linter.unusedVariables false

set_option maxHeartbeats 8000000 in
theorem CheckRule_c (r : Rl) (w : World) (hs : r.s.size ≤ maxLen) : Calls Tryz.prog 20 #[r.v] w fun e w' => e = .returned (.int .i64 (rchk r)) ∧ Below w.heap.size w w' := by
  have hc := rchk_cases r
  rcases hc with ⟨b1, rc⟩ | ⟨b1, hc⟩
  · rw [rc]; exact CheckRule_no r w b1
  · obtain ⟨g1, g2, g3, g4, g5, g6⟩ : Cal.yrB r.f = true ∧ Cal.yrB r.t = true ∧ r.f ≤ r.t ∧ Cal.moB r.m = true ∧ inB r.a 0 86400 = true ∧ inB r.sv 0 7200 = true := by
      rcases bnd_cases r with ⟨_, h⟩ | ⟨h, _⟩
      · exact h
      · rw [b1] at h; cases h
    have HS := hideH hs
    have hs' := hs
    unfold maxLen at hs'
    have hyi := hideH (yrs_iff r)
    have hbd := bnd_of b1
    have h4 : chk r.k r.wk r.D = 0 → ∀ y, r.f ≤ y → y ≤ r.t → findE y r.m r.k r.wk r.D ≠ 0 → findE y r.m r.k r.wk r.D = 4 := by
      intro hk y h1 h2 h3
      exact find_four y _ _ _ _ (by omega) (by omega) (by omega) (by omega) hk h3
    have H4 := hideH h4
    clear h4 b1 hs
    generalize rchk r = RC at *
    have hbx := hideH (rbox_new w r)
    have H0 : Hid (Below w.heap.size w (w.alloc (.cells r.cs 65))) := (Below.refl _ _).alloc (Nat.le_refl _) _
    go_enter Tryz.func20, Tryz.ntmps20
    go_wp2_with (first
      | (go_at_call 38; refine (IsYear_c _ _).mono ?_; intro e w'; rintro ⟨rfl, hw⟩; subst hw)
      | (go_at_call 39; refine (RisMonth_c _ _).mono ?_; intro e w'; rintro ⟨rfl, hw⟩; subst hw)
      | (go_at_call 17; refine (within_c _ _ _ _).mono ?_; intro e w'; rintro ⟨rfl, hw⟩; subst hw))
    refine (CheckOn_c _ _ _ _).mono ?_
    rintro e w2 ⟨rfl, hw2⟩
    have H2 := hideH (bthen H0.out hw2)
    have B2 : Hid (RBox w2 w.heap.size r) := hbx.out.on hw2
    clear hw2 hbx H0
    rcases hc with ⟨k1, rc⟩ | ⟨k1, hc⟩
    · have RCH := hideH rc
      have hne : (chk r.k r.wk r.D != 0) = true := by rw [bne_iff_ne]; exact k1
      clear rc hyi H4 k1
      go_wp2_with fail
      go_ret
      exact ⟨ret_int RCH.out.symm, H2.out⟩
    · rw [k1]
      have CK := hideH k1
      clear k1
      obtain ⟨c0, c1, c2, c3, c4, c5, c6, c7, c8⟩ := B2.out
      have hl : (12 < r.s.size ∧ letS r.s = false) ∨ (r.s.size ≤ 12 ∧ letS r.s = allLet r.s.data.toList) := by
        by_cases h : r.s.size ≤ 12
        · exact .inr ⟨h, by simp [letS, h]⟩
        · exact .inl ⟨by omega, by simp [letS, h]⟩
      rcases hl with ⟨l1, l2⟩ | ⟨l1, l2⟩
      · have RCH : Hid (RC = 5) := by
          rcases hc with ⟨_, h⟩ | ⟨h, _⟩
          · exact h
          · rw [l2] at h; cases h
        clear hc hyi H4 l2
        go_wp2_with fail
        go_ret
        exact ⟨ret_int RCH.out.symm, H2.out⟩
      · rw [l2] at hc
        clear l2
        rcases hc with ⟨k1, rc⟩ | ⟨k1, hc⟩
        · have RCH := hideH rc
          clear rc hyi H4
          go_wp2_with (go_at_call 37; refine (letters_c _ _ HS.out).mono ?_; intro e w'; rintro ⟨rfl, hw⟩; subst hw)
          go_ret
          exact ⟨ret_int RCH.out.symm, H2.out⟩
        · have HC := hideH hc
          clear hc
          go_wp2_with (go_at_call 37; refine (letters_c _ _ HS.out).mono ?_; intro e w'; rintro ⟨rfl, hw⟩; subst hw)
          clear c0 c1 c2 c3 c4 c5 c6 c7 c8 k1
          go_loopw [4] (fun n v => ∃ j : Int, r.f ≤ j ∧ j ≤ r.t + 1 ∧ n = .int .i64 j ∧ Hid (∀ y, r.f ≤ y → y < j → findE y r.m r.k r.wk r.D = 0) ∧ Hid (RBox v w.heap.size r) ∧ Hid (Below w.heap.size w v)) (fun n _ => (r.t + 1 - intOf n).toNat)
          case atStart => exact ⟨r.f, by omega, by omega, rfl, fun y h1 h2 => by omega, B2, H2⟩
          case round =>
            obtain ⟨j, hj1, hj2, rfl, HA, HB, HW⟩ := hrel
            obtain ⟨c0, c1, c2, c3, c4, c5, c6, c7, c8⟩ := HB.out
            clear B2 H2
            by_cases hlt : j ≤ r.t
            · go_wp2_with fail
              refine (FindOf_c _ _ _ _ _ _).mono ?_
              rintro e w3 ⟨rfl, hw3⟩
              have H3 := hideH (bthen HW.out hw3)
              have B3 := hideH (HB.out.on hw3)
              clear hw3 c0 c1 c2 c3 c4 c5 c6 c7 c8 HB HW
              rcases beq_cases (findE j r.m r.k r.wk r.D) 0 with ⟨q1, q2⟩ | ⟨q1, q2⟩
              · have Q2 := hideH q2
                rw [q2]
                clear q1 q2
                go_wp2_with fail
                exact ⟨⟨j + 1, by omega, by omega, rfl, fun y h1 h2 => by
                  by_cases hy : y = j
                  · rw [hy]; exact Q2.out
                  · exact HA.out y h1 (by omega), B3, H3⟩, by simp [intOf]; omega⟩
              · have q3 := H4.out CK.out j hj1 hlt q2
                have hno : yrsOK r = false := by
                  cases hy : yrsOK r
                  · rfl
                  · exact absurd ((hyi.out.1 hy) j hj1 hlt) q2
                have hrc : RC = 4 := by
                  rcases HC.out with ⟨_, h⟩ | ⟨h, _⟩
                  · exact h
                  · rw [hno] at h; cases h
                rw [q3]
                have RCH := hideH hrc
                clear q1 q2 q3 hno hrc HC hyi H4
                go_wp2_with fail
                go_ret
                exact ⟨ret_int RCH.out.symm, H3.out⟩
            · have hall : yrsOK r = true := hyi.out.2 (fun y h1 h2 => HA.out y h1 (by omega))
              have hrc : RC = 0 := by
                rcases HC.out with ⟨h, _⟩ | ⟨_, h⟩
                · rw [hall] at h; cases h
                · exact h
              have RCH := hideH hrc
              clear hall hrc HC hyi H4
              go_wp2_with fail
              go_ret
              exact ⟨ret_int RCH.out.symm, HW.out⟩

theorem RisStd_c (y : Int) (w : World) : Calls Tryz.prog 42 #[.int .i64 y] w fun e w' => e = .returned (.bool (inB y (-50400) 50400)) ∧ w' = w := by
  go_enter Tryz.func42, Tryz.ntmps42
  go_wp2_with (go_at_call 17; refine (within_c _ _ _ _).mono ?_; rintro e w' ⟨rfl, rfl⟩)
  go_ret
  exact ⟨rfl, rfl⟩
end Go.Proofs.YtbpdbggojgijiaaGreatDoor

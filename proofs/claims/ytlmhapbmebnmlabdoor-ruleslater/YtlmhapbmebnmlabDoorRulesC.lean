/- Contracts of package rules: Check. -/
import Derived.Test.YtlmhapbmebnmlabDoorRulesB
namespace Go.Proofs.YtlmhapbmebnmlabDoor
open Go Go.RowKit
set_option linter.unusedVariables false

theorem isStd_c (y : Int) (w : World) : Calls Tryd.prog 15 #[.int .i64 y] w fun e w' => e = .returned (.bool (inB y (-50400) 50400)) ∧ w' = w := by
  by_cases h : -50400 ≤ y
  all_goals
    go_enter Tryd.func15, Tryd.ntmps15
    go_wp2
    go_ret
    exact ⟨ret_bool (by unfold inB; rw [Bool.eq_iff_iff]; simp; omega), rfl⟩

/-- the nine cells of a boxed rule -/
def RBox (v : World) (b : Nat) (r : Rl) : Prop :=
  v.cell? ⟨b, 0, none⟩ = some (.int .i64 r.f) ∧ v.cell? ⟨b, 1, none⟩ = some (.int .i64 r.t) ∧ v.cell? ⟨b, 2, none⟩ = some (.int .i64 r.m) ∧ v.cell? ⟨b, 3, none⟩ = some (.int .i64 r.k) ∧ v.cell? ⟨b, 4, none⟩ = some (.int .i64 r.wk)
  ∧ v.cell? ⟨b, 5, none⟩ = some (.int .i64 r.D) ∧ v.cell? ⟨b, 6, none⟩ = some (.int .i64 r.a) ∧ v.cell? ⟨b, 7, none⟩ = some (.int .i64 r.sv) ∧ v.cell? ⟨b, 8, none⟩ = some (.string r.s)
theorem cell_on {w w' : World} {b o : Nat} {x : Value} (h : w.cell? ⟨b, o, none⟩ = some x) (hb : Below w.heap.size w w') : w'.cell? ⟨b, o, none⟩ = some x := by
  rw [hb.cell (p := ⟨b, o, none⟩) (cell_lt h)]; exact h
theorem RBox.on {w w' : World} {b : Nat} {r : Rl} (h : RBox w b r) (hb : Below w.heap.size w w') : RBox w' b r := by
  obtain ⟨h0, h1, h2, h3, h4, h5, h6, h7, h8⟩ := h
  exact ⟨cell_on h0 hb, cell_on h1 hb, cell_on h2 hb, cell_on h3 hb, cell_on h4 hb, cell_on h5 hb, cell_on h6 hb, cell_on h7 hb, cell_on h8 hb⟩
theorem RBox.lt {w : World} {b : Nat} {r : Rl} (h : RBox w b r) : b < w.heap.size := cell_lt h.1
theorem rbox_new (w : World) (r : Rl) : RBox (w.alloc (.cells r.cs 25)) w.heap.size r := by
  refine ⟨?_, ?_, ?_, ?_, ?_, ?_, ?_, ?_, ?_⟩ <;> go_simp

def yrsOK (r : Rl) : Bool := (List.range (r.t - r.f + 1).toNat).all fun i => findE (r.f + i) r.m r.k r.wk r.D == 0
theorem yrs_iff (r : Rl) : yrsOK r = true ↔ ∀ y, r.f ≤ y → y ≤ r.t → findE y r.m r.k r.wk r.D = 0 := by
  unfold yrsOK
  rw [List.all_eq_true]
  constructor
  · intro h y h1 h2
    have := h (y - r.f).toNat (List.mem_range.2 (by omega))
    have e : r.f + ((y - r.f).toNat : Int) = y := by omega
    rw [e] at this
    simpa using this
  · intro h i hi
    have := List.mem_range.1 hi
    simpa using h (r.f + i) (by omega) (by omega)
/-- what is wrong with a rule -/
def rchk (r : Rl) : Int := if bnd r then (if chk r.k r.wk r.D = 0 then (if letS r.s then (if yrsOK r then 0 else 4) else 5) else chk r.k r.wk r.D) else 3
theorem find_four (y m k wk D : Int) (hy1 : 1970 ≤ y) (hy2 : y ≤ 2029) (hm1 : 1 ≤ m) (hm2 : m ≤ 12) (hk : chk k wk D = 0) (h : findE y m k wk D ≠ 0) : findE y m k wk D = 4 := by
  have lb := Cal.ml_bd y m
  have hok : Cal.okB y m 1 = true := ok_mk (by omega)
  simp only [findE, hk, hok, if_true] at h ⊢
  split at h
  · simp_all
  · exact absurd rfl h
theorem rchk_cases (r : Rl) : (bnd r = false ∧ rchk r = 3) ∨ (bnd r = true ∧ ((chk r.k r.wk r.D ≠ 0 ∧ rchk r = chk r.k r.wk r.D) ∨ (chk r.k r.wk r.D = 0 ∧ ((letS r.s = false ∧ rchk r = 5) ∨ (letS r.s = true ∧ ((yrsOK r = false ∧ rchk r = 4) ∨ (yrsOK r = true ∧ rchk r = 0))))))) := by
  unfold rchk
  cases bnd r
  · exact .inl ⟨rfl, by simp⟩
  · refine .inr ⟨rfl, ?_⟩
    by_cases h : chk r.k r.wk r.D = 0
    · right
      refine ⟨h, ?_⟩
      cases letS r.s
      · exact .inl ⟨rfl, by simp [h]⟩
      · refine .inr ⟨rfl, ?_⟩
        cases yrsOK r
        · exact .inl ⟨rfl, by simp [h]⟩
        · exact .inr ⟨rfl, by simp [h]⟩
    · exact .inl ⟨h, by simp [h]⟩

set_option maxHeartbeats 4000000 in
theorem RCheck_c (r : Rl) (w : World) (hL : Laid w) (hs : r.s.size ≤ maxLen) : Calls Tryd.prog 10 #[r.v] w fun e w' => e = .returned (.int .i64 (rchk r)) ∧ Below w.heap.size w w' := by
  have HL := hideH hL
  have HS := hideH hs
  clear hL hs
  have hc := rchk_cases r
  have hyi := hideH (yrs_iff r)
  have h4 : bnd r = true → chk r.k r.wk r.D = 0 → ∀ y, r.f ≤ y → y ≤ r.t → findE y r.m r.k r.wk r.D ≠ 0 → findE y r.m r.k r.wk r.D = 4 := by
    intro hb hk y h1 h2 h3
    have := bnd_of hb
    exact find_four y _ _ _ _ (by omega) (by omega) (by omega) (by omega) hk h3
  have H4 := hideH h4
  clear h4
  generalize rchk r = RC at *
  have hbx := hideH (rbox_new w r)
  have H0 : Hid (Below w.heap.size w (w.alloc (.cells r.cs 25))) := (Below.refl _ _).alloc (Nat.le_refl _) _
  have L0 := hideH (HL.out.on H0.out)
  go_enter Tryd.func10, Tryd.ntmps10
  go_wp2_with fail
  refine (inBounds_c r _).mono ?_
  rintro e w1 ⟨rfl, hw1⟩
  have H1 : Hid (Below w.heap.size w w1) := bthen H0.out hw1
  have L1 : Hid (Laid w1) := HL.out.on H1.out
  have B1 : Hid (RBox w1 w.heap.size r) := hbx.out.on hw1
  clear hw1 hbx H0 L0
  rcases hc with ⟨b1, rc⟩ | ⟨b1, hc⟩
  · rw [b1]
    have RCH := hideH rc
    clear b1 rc hyi H4
    go_wp2_with fail
    go_ret
    exact ⟨ret_int RCH.out.symm, H1.out⟩
  · rw [b1]
    have BD := hideH b1
    clear b1
    obtain ⟨c0, c1, c2, c3, c4, c5, c6, c7, c8⟩ := B1.out
    go_wp2_with fail
    refine (Check_c _ _ _ _).mono ?_
    rintro e w2 ⟨rfl, hw2⟩
    have H2 := hideH (bthen H1.out hw2)
    have L2 := hideH (L1.out.on hw2)
    have B2 := hideH (B1.out.on hw2)
    clear hw2 c0 c1 c2 c3 c4 c5 c6 c7 c8 B1 L1 H1
    rcases hc with ⟨k1, rc⟩ | ⟨k1, hc⟩
    · have RCH := hideH rc
      have hne : (chk r.k r.wk r.D != 0) = true := by rw [bne_iff_ne]; exact k1
      clear rc hyi H4 k1
      go_wp2_with fail
      go_ret
      exact ⟨ret_int RCH.out.symm, H2.out⟩
    · rw [k1]
      have CK := hideH k1
      clear k1
      obtain ⟨c0, c1, c2, c3, c4, c5, c6, c7, c8⟩ := B2.out
      go_wp2_with fail
      refine (isLetters_c _ _ HS.out).mono ?_
      rintro e w2 ⟨rfl, rfl⟩
      rcases hc with ⟨k1, rc⟩ | ⟨k1, hc⟩
      · rw [k1]
        have RCH := hideH rc
        clear rc hyi H4 k1
        go_wp2_with fail
        go_ret
        exact ⟨ret_int RCH.out.symm, H2.out⟩
      · rw [k1]
        clear k1
        have hbd := bnd_of BD.out
        go_wp2_with fail
        clear c0 c1 c2 c3 c4 c5 c6 c7 c8
        go_loopw [4] (fun n v => ∃ j : Int, r.f ≤ j ∧ j ≤ r.t + 1 ∧ n = .int .i64 j ∧ Hid (∀ y, r.f ≤ y → y < j → findE y r.m r.k r.wk r.D = 0) ∧ Hid (RBox v w.heap.size r) ∧ Hid (Laid v) ∧ Hid (Below w.heap.size w v)) (fun n _ => (r.t + 1 - intOf n).toNat)
        case atStart => exact ⟨r.f, by omega, by omega, rfl, fun y h1 h2 => by omega, B2, L2, H2⟩
        case round =>
          obtain ⟨j, hj1, hj2, rfl, HA, HB, HLv, HW⟩ := hrel
          obtain ⟨c0, c1, c2, c3, c4, c5, c6, c7, c8⟩ := HB.out
          clear B2 L2 H2
          by_cases hlt : j ≤ r.t
          · go_wp2_with fail
            refine (Find_c _ _ _ _ _ _ HLv.out).mono ?_
            rintro e w3 ⟨rfl, hw3⟩
            have H3 := hideH (bthen HW.out hw3)
            have L3 := hideH (HLv.out.on hw3)
            have B3 := hideH (HB.out.on hw3)
            clear hw3 c0 c1 c2 c3 c4 c5 c6 c7 c8 HB HLv HW
            rcases beq_cases (findE j r.m r.k r.wk r.D) 0 with ⟨q1, q2⟩ | ⟨q1, q2⟩
            · have Q2 := hideH q2
              rw [q2]
              clear q1 q2
              go_wp2_with fail
              exact ⟨⟨j + 1, by omega, by omega, rfl, fun y h1 h2 => by
                by_cases hy : y = j
                · rw [hy]; exact Q2.out
                · exact HA.out y h1 (by omega), B3, L3, H3⟩, by simp [intOf]; omega⟩
            · have q3 := H4.out BD.out CK.out j hj1 hlt q2
              have hno : yrsOK r = false := by
                cases hy : yrsOK r
                · rfl
                · exact absurd ((hyi.out.1 hy) j hj1 hlt) q2
              have hrc : RC = 4 := by
                rcases hc with ⟨_, h⟩ | ⟨h, _⟩
                · exact h
                · rw [hno] at h; cases h
              rw [q3]
              have RCH := hideH hrc
              clear q1 q2 q3 hno hrc hc hyi H4
              go_wp2_with fail
              go_ret
              exact ⟨ret_int RCH.out.symm, H3.out⟩
          · have hall : yrsOK r = true := hyi.out.2 (fun y h1 h2 => HA.out y h1 (by omega))
            have hrc : RC = 0 := by
              rcases hc with ⟨h, _⟩ | ⟨_, h⟩
              · rw [hall] at h; cases h
              · exact h
            have RCH := hideH hrc
            clear hall hrc hc hyi H4
            go_wp2_with fail
            go_ret
            exact ⟨ret_int RCH.out.symm, HW.out⟩
end Go.Proofs.YtlmhapbmebnmlabDoor

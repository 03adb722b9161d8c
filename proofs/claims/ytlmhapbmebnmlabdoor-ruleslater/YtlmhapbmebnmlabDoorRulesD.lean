/- Contracts of package rules: begin, At. -/
import Derived.Test.YtlmhapbmebnmlabDoorRulesC
namespace Go.Proofs.YtlmhapbmebnmlabDoor
open Go Go.RowKit
set_option linter.unusedVariables false

/-- when a rule begins in a year -/
def begR (r : Rl) (y std : Int) : Int := daysR y r.m (findR y r.m r.k r.wk r.D) * 86400 + r.a - std
set_option maxHeartbeats 1000000 in
theorem begin_c (r : Rl) (y std : Int) (w : World) (hL : Laid w) (h1 : 0 ≤ r.a) (h2 : r.a ≤ 86400) (h3 : -50400 ≤ std) (h4 : std ≤ 50400) :
    Calls Tryd.prog 16 #[r.v, .int .i64 y, .int .i64 std] w fun e w' => e = .returned (.int .i64 (begR r y std)) ∧ Below w.heap.size w w' := by
  have HL := hideH hL
  clear hL
  have hbx := hideH (rbox_new w r)
  have H0 : Hid (Below w.heap.size w (w.alloc (.cells r.cs 25))) := (Below.refl _ _).alloc (Nat.le_refl _) _
  have L0 := hideH (HL.out.on H0.out)
  have hd := daysR_bd y r.m (findR y r.m r.k r.wk r.D)
  go_enter Tryd.func16, Tryd.ntmps16
  go_wp2_with fail
  refine (Find_c _ _ _ _ _ _ L0.out).mono ?_
  rintro e w1 ⟨rfl, hw1⟩
  have H1 : Hid (Below w.heap.size w w1) := bthen H0.out hw1
  have L1 : Hid (Laid w1) := HL.out.on H1.out
  have B1 : Hid (RBox w1 w.heap.size r) := hbx.out.on hw1
  clear hw1 hbx H0 L0
  obtain ⟨c0, c1, c2, c3, c4, c5, c6, c7, c8⟩ := B1.out
  go_wp2_with fail
  refine (Days_c _ _ _ _ L1.out).mono ?_
  rintro e w1 ⟨rfl, rfl⟩
  go_wp2_with fail
  go_ret
  exact ⟨rfl, H1.out⟩

def atOK (r : Rl) (y std : Int) : Bool := decide (r.f ≤ y ∧ y ≤ r.t) && inB std (-50400) 50400
def atR (r : Rl) (y std : Int) : Int := if rchk r = 0 ∧ atOK r y std = true then begR r y std else 0
def atE (r : Rl) (y std : Int) : Int := if rchk r = 0 then (if atOK r y std then 0 else 3) else rchk r
theorem rchk_bnd {r : Rl} (h : rchk r = 0) : bnd r = true := by
  cases hb : bnd r
  · simp [rchk, hb] at h
  · rfl
set_option maxHeartbeats 2000000 in
theorem At_c (r : Rl) (y std : Int) (w : World) (hL : Laid w) (hs : r.s.size ≤ maxLen) :
    Calls Tryd.prog 7 #[r.v, .int .i64 y, .int .i64 std] w fun e w' => e = .returned (.tuple #[.int .i64 (atR r y std), .int .i64 (atE r y std)]) ∧ Below w.heap.size w w' := by
  have HL := hideH hL
  have hbx := hideH (rbox_new w r)
  have H0 : Hid (Below w.heap.size w (w.alloc (.cells r.cs 25))) := (Below.refl _ _).alloc (Nat.le_refl _) _
  have L0 := hideH (HL.out.on H0.out)
  have HS := hideH hs
  clear hL hs
  rcases beq_cases (rchk r) 0 with ⟨k1, k2⟩ | ⟨k1, k2⟩
  · have hbd := bnd_of (rchk_bnd k2)
    have hcase : (atOK r y std = false ∧ (y < r.f ∨ (r.f ≤ y ∧ (r.t < y ∨ (y ≤ r.t ∧ inB std (-50400) 50400 = false))))) ∨ (atOK r y std = true ∧ r.f ≤ y ∧ y ≤ r.t ∧ inB std (-50400) 50400 = true ∧ -50400 ≤ std ∧ std ≤ 50400) := by
      unfold atOK
      rcases in_cases std (-50400) 50400 with ⟨a1, a2, a3⟩ | ⟨a1, a2⟩
      · rw [a1]
        by_cases h : r.f ≤ y ∧ y ≤ r.t
        · exact .inr ⟨by simp [h], h.1, h.2, rfl, a2, a3⟩
        · exact .inl ⟨by simp; omega, by omega⟩
      · rw [a1]
        refine .inl ⟨by simp, ?_⟩
        by_cases h : y < r.f
        · exact .inl h
        · by_cases h' : r.t < y
          · exact .inr ⟨by omega, .inl h'⟩
          · exact .inr ⟨by omega, .inr ⟨by omega, rfl⟩⟩
    rcases hcase with ⟨a1, a2⟩ | ⟨a1, a2, a3, a4, a5, a6⟩
    · have e1 : atR r y std = 0 := by simp [atR, a1]
      have e2 : atE r y std = 3 := by simp [atE, a1, k2]
      rw [e1, e2]
      clear e1 e2 a1 k1
      rcases a2 with b1 | ⟨b1, b2 | ⟨b2, b3⟩⟩
      all_goals
        go_enter Tryd.func7, Tryd.ntmps7
        go_wp2_with fail
        refine (RCheck_c r _ L0.out HS.out).mono ?_
        rintro e w1 ⟨rfl, hw1⟩
        have H1 : Hid (Below w.heap.size w w1) := bthen H0.out hw1
        have B1 : Hid (RBox w1 w.heap.size r) := hbx.out.on hw1
        clear hw1
        rw [k2]
        obtain ⟨c0, c1, c2, c3, c4, c5, c6, c7, c8⟩ := B1.out
        go_wp2_with (go_at_call 15; refine (isStd_c _ _).mono ?_; rintro e w1 ⟨rfl, rfl⟩)
        go_ret2
        exact ⟨rfl, H1.out⟩
    · have e1 : atR r y std = begR r y std := by simp [atR, a1, k2]
      have e2 : atE r y std = 0 := by simp [atE, a1, k2]
      rw [e1, e2]
      clear e1 e2 a1 k1
      go_enter Tryd.func7, Tryd.ntmps7
      go_wp2_with fail
      refine (RCheck_c r _ L0.out HS.out).mono ?_
      rintro e w1 ⟨rfl, hw1⟩
      have H1 : Hid (Below w.heap.size w w1) := bthen H0.out hw1
      have B1 : Hid (RBox w1 w.heap.size r) := hbx.out.on hw1
      have L1 : Hid (Laid w1) := HL.out.on H1.out
      clear hw1
      rw [k2]
      obtain ⟨c0, c1, c2, c3, c4, c5, c6, c7, c8⟩ := B1.out
      go_wp2_with (go_at_call 15; refine (isStd_c _ _).mono ?_; rintro e w1 ⟨rfl, rfl⟩)
      refine (begin_c r y std _ L1.out (by omega) (by omega) a5 a6).mono ?_
      rintro e w2 ⟨rfl, hw2⟩
      go_wp2_with fail
      go_ret2
      exact ⟨rfl, bthen H1.out hw2⟩
  · have e1 : atR r y std = 0 := by simp [atR, k2]
    have e2 : atE r y std = rchk r := by simp [atE, k2]
    rw [e1, e2]
    have hne : (rchk r != 0) = true := by rw [bne_iff_ne]; exact k2
    clear e1 e2 k2
    go_enter Tryd.func7, Tryd.ntmps7
    go_wp2_with fail
    refine (RCheck_c r _ L0.out HS.out).mono ?_
    rintro e w1 ⟨rfl, hw1⟩
    have H1 : Hid (Below w.heap.size w w1) := bthen H0.out hw1
    clear hw1
    go_wp2_with fail
    go_ret2
    exact ⟨rfl, H1.out⟩
end Go.Proofs.YtlmhapbmebnmlabDoor

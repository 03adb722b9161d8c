/- The walk of the statement RulesLater: it returns true, and nothing that lay in memory has turned. -/
import Derived.Test.YtlmhapbmebnmlabDoorRulesM
namespace Go.Proofs.YtlmhapbmebnmlabDoor
open Go Go.RowKit
set_option linter.unusedVariables false

set_option maxRecDepth 100000 in
set_option maxHeartbeats 8000000 in
theorem RulesLater_w (a : Option Addr) (n cap : Nat) (rs : Nat → Rl) (std one two : Int) (w : World) (hL : Laid w) (hR : ARow w a n cap rs) (hm : n ≤ maxLen) (hz : ∀ j, j < n → (rs j).s.size ≤ maxLen) :
    Calls Tryd.prog 6 #[.slice a n cap, .int .i64 std, .int .i64 one, .int .i64 two] w fun e w' => e = .returned (.bool true) ∧ Below w.heap.size w w' := by
  have HL := hideH hL
  have HR := hideH hR
  have HM := hideH hm
  have HZ := hideH hz
  have hm' := hm
  unfold maxLen at hm'
  clear hL hR hm hz
  have hE := beq_cases (lastE rs n std one) 0
  have hlat := hideH (last_later rs n std one two)
  have hwhi := hideH (last_which rs n std one)
  have hokk := hideH (last_ok rs n std one)
  go_enter Tryd.func6, Tryd.ntmps6
  go_wp2_with fail
  refine (Last_c a n cap rs std one _ HL.out HR.out HM.out HZ.out).mono ?_
  rintro e w1 ⟨rfl, hw⟩
  have H1 : Hid (Below w.heap.size w w1) := hw
  have R1 := hideH (HR.out.on hw)
  have L1 := hideH (HL.out.on hw)
  clear hw
  go_wp2_with fail
  refine (Last_c a n cap rs std two _ L1.out R1.out HM.out HZ.out).mono ?_
  rintro e w2 ⟨rfl, hw⟩
  have H2 : Hid (Below w.heap.size w w2) := bthen H1.out hw
  have R2 := hideH (R1.out.on hw)
  have L2 := hideH (L1.out.on hw)
  clear hw H1 R1 L1
  rcases hE with ⟨q1, q2⟩ | ⟨q1, q2⟩
  · rcases hlat.out q2 with ⟨g1, g2⟩ | g1 | ⟨g1, g2⟩
    · -- both are told
      obtain ⟨k, k1, k2, k3, k4, k5⟩ := hwhi.out q2
      obtain ⟨o1, o2, o3, o4, o5, o6, o7, o8⟩ := hokk.out q2
      have hsame : one = two → lastK rs n std two = k ∧ lastN rs n std two = lastN rs n std one := by
        rintro rfl; exact ⟨k2, rfl⟩
      rw [q2, g1, k2]
      obtain ⟨b, off, rfl, hrow⟩ : ∃ b off, a = some ⟨b, off, none⟩ ∧ Row w2 b off n rs := by
        rcases R2.out with h | h
        · omega
        · exact h
      have RW := hideH hrow
      have K4 := hideH k4
      have K5 := hideH k5
      have hbd := bnd_of (rchk_bnd (o2 k k1))
      have hck := hideH (o2 k k1)
      clear q1 q2 hlat hwhi hokk g1 k2 k4 k5 o2 o7 o8 hrow
      generalize lastN rs n std one = A at *
      generalize lastN rs n std two = B at *
      generalize lastK rs n std two = K' at *
      have hfacts : (one ≤ two ∧ A ≤ B ∧ (one == two) = true ∧ (K' != (k : Int)) = false ∧ (A != B) = false) ∨ (one ≤ two ∧ A ≤ B ∧ (one == two) = false) ∨ (two < one ∧ (one == two) = false) := by
        rcases Int.lt_or_le two one with hlt | hge
        · exact .inr (.inr ⟨hlt, beq_eq_false_iff_ne.2 (by omega)⟩)
        · rcases beq_cases one two with ⟨x1, x2⟩ | ⟨x1, _⟩
          · obtain ⟨x3, x4⟩ := hsame x2
            exact .inl ⟨hge, g2 hge, x1, by rw [x3]; simp, by rw [x4]; simp⟩
          · exact .inr (.inl ⟨hge, g2 hge, x1⟩)
      have hat : ∀ y, (rs k).f ≤ y → y ≤ (rs k).t → atR (rs k) y std = begR (rs k) y std ∧ atE (rs k) y std = 0 := by
        intro y h1 h2
        have : atOK (rs k) y std = true := by unfold atOK; rw [in_mk ⟨o3, o4⟩]; simp [h1, h2]
        exact ⟨by simp [atR, this, hck.out], by simp [atE, this, hck.out]⟩
      have HAT := hideH hat
      clear g2 hsame hat
      have hk0 : decide ((k : Int) < 0) = false := by simp
      have hkn : decide (n ≤ k) = false := by simp; omega
      rcases hfacts with ⟨f1, f2, f3, f4, f5⟩ | ⟨f1, f2, f3⟩ | ⟨f1, f3⟩
      all_goals
        obtain ⟨c0, c1, c2, c3, c4, c5, c6, c7, c8⟩ := RW.out k k1
        go_wp2_with fail
        clear c0 c1 c2 c3 c4 c5 c6 c7 c8
        go_loopw [15, 16] (fun x15 x16 v => ∃ (y : Int) (isb : Bool), (rs k).f ≤ y ∧ y ≤ (rs k).t + 1 ∧ x16 = .int .i64 y ∧ x15 = .bool isb ∧ Hid (isb = true ↔ ∃ y', (rs k).f ≤ y' ∧ y' < y ∧ begR (rs k) y' std = A) ∧ Hid (Laid v) ∧ Hid (Row v b off n rs) ∧ Hid (Below w.heap.size w v)) (fun _ x16 _ => ((rs k).t + 1 - intOf x16).toNat)
        case atStart => exact ⟨(rs k).f, false, by omega, by omega, rfl, rfl, ⟨fun h => (by cases h), fun ⟨y', h1, h2, _⟩ => (by omega)⟩, L2, RW, H2⟩
        case round =>
          obtain ⟨y, isb, hy1, hy2, rfl, rfl, HI, HLv, HRv, HW⟩ := hrel
          obtain ⟨c0, c1, c2, c3, c4, c5, c6, c7, c8⟩ := HRv.out k k1
          by_cases hyt : y ≤ (rs k).t
          · have hy9 : y ≤ 2029 := by omega
            go_wp2_with fail
            refine (At_c (rs k) y std _ HLv.out (HZ.out k k1)).mono ?_
            rintro e w3 ⟨rfl, hw3⟩
            have H3 := hideH (bthen HW.out hw3)
            have L3 := hideH (HLv.out.on hw3)
            have R3 := hideH (HRv.out.on hw3)
            clear hw3 c0 c1 c2 c3 c4 c5 c6 c7 c8
            obtain ⟨e1, e2⟩ := HAT.out y hy1 hyt
            rw [e1, e2]
            clear e1 e2
            cases isb
            · rcases beq_cases (begR (rs k) y std) A with ⟨z1, z2⟩ | ⟨z1, z2⟩
              · have Z2 := hideH z2
                clear z2
                go_wp2_with fail
                exact ⟨⟨y + 1, true, by omega, by omega, rfl, rfl, ⟨fun _ => ⟨y, hy1, by omega, Z2.out⟩, fun _ => rfl⟩, L3, R3, H3⟩, by simp [intOf]; omega⟩
              · have Z2 := hideH z2
                clear z2
                go_wp2_with fail
                exact ⟨⟨y + 1, false, by omega, by omega, rfl, rfl, ⟨fun h => (by cases h), fun ⟨y', h1, h2, h3⟩ => (by
                  by_cases hyy : y' = y
                  · subst hyy; exact absurd h3 Z2.out
                  · exact HI.out.2 ⟨y', h1, by omega, h3⟩)⟩, L3, R3, H3⟩, by simp [intOf]; omega⟩
            · have HX := hideH (HI.out.1 rfl)
              clear HI
              go_wp2_with fail
              exact ⟨⟨y + 1, true, by omega, by omega, rfl, rfl, ⟨fun _ => (by
                obtain ⟨y', h1, h2, h3⟩ := HX.out
                exact ⟨y', h1, by omega, h3⟩), fun _ => rfl⟩, L3, R3, H3⟩, by simp [intOf]; omega⟩
          · have hisb : isb = true := HI.out.2 (by
              obtain ⟨y', h1, h2, h3⟩ := K4.out
              exact ⟨y', h1, by omega, h3⟩)
            subst hisb
            by_cases hA0 : A < 0
            · go_wp2_with fail
              refine (rulesBegun_c _ HLv.out).mono ?_
              rintro e w4 ⟨rfl, hw4⟩
              go_wp2_with fail
              go_ret
              exact ⟨rfl, bthen HW.out hw4⟩
            · obtain ⟨l1, l2, l3⟩ := K5.out (by omega)
              go_wp2_with fail
              refine (Last_some b off n cap rs std A _ HLv.out HRv.out HM.out HZ.out).mono ?_
              rintro e w4 ⟨rfl, hw4⟩
              have H4 := hideH (bthen HW.out hw4)
              have L4 := hideH (HLv.out.on hw4)
              clear hw4
              rw [l1, l2, l3]
              clear l1 l2 l3
              go_wp2_with fail
              refine (rulesBegun_c _ L4.out).mono ?_
              rintro e w5 ⟨rfl, hw5⟩
              go_wp2_with fail
              go_ret
              exact ⟨rfl, bthen H4.out hw5⟩
    · -- the later one is no time
      rw [q2, g1]
      clear q1 q2 hlat hwhi hokk g1
      go_wp2_with fail
      refine (rulesBegun_c _ L2.out).mono ?_
      rintro e w3 ⟨rfl, hw3⟩
      by_cases hgt : two < one
      all_goals
        go_wp2_with fail
        go_ret
        exact ⟨rfl, bthen H2.out hw3⟩
    · rw [q2, g1]
      clear q1 q2 hlat hwhi hokk g1
      go_wp2_with fail
      refine (rulesBegun_c _ L2.out).mono ?_
      rintro e w3 ⟨rfl, hw3⟩
      go_wp2_with fail
      go_ret
      exact ⟨rfl, bthen H2.out hw3⟩
  · have hne : (lastE rs n std one != 0) = true := by rw [bne_iff_ne]; exact q2
    clear q2 hlat hwhi hokk
    go_wp2_with fail
    refine (rulesBegun_c _ L2.out).mono ?_
    rintro e w3 ⟨rfl, hw3⟩
    go_wp2_with fail
    go_ret
    exact ⟨rfl, bthen H2.out hw3⟩
end Go.Proofs.YtlmhapbmebnmlabDoor

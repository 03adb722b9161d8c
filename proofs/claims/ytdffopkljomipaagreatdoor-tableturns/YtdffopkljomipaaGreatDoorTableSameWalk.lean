/- The walk of the statement TableSame. -/
import Derived.Test.YtdffopkljomipaaGreatDoorTableR
namespace Go.Proofs.YtdffopkljomipaaGreatDoor
open Go Go.RowKit Go.Maps
set_option linter.unusedVariables false

/-- what holds in a zone that is told -/
theorem ats_in {D : Dt} {s : ByteArray} {t : Int} {k : Nat} (h : zonE D s = 0) (hk : zonR D s = k) (ht : 0 ≤ t ∧ t < 1893456000) : atsE D s t = 0 ∧ atsR D s t = offR D k t := by
  unfold atsE atsR
  rw [if_pos h, if_pos ht, if_pos h, if_pos ht, hk]
  exact ⟨rfl, rfl⟩
theorem ats_out {D : Dt} {s : ByteArray} {t : Int} (h : zonE D s = 0) (ht : ¬ (0 ≤ t ∧ t < 1893456000)) : atsE D s t = 3 ∧ atsR D s t = oZ := by
  unfold atsE atsR
  rw [if_pos h, if_neg ht, if_pos h, if_neg ht]
  exact ⟨rfl, rfl⟩
theorem ats_none {D : Dt} {s : ByteArray} (t : Int) (h : zonE D s ≠ 0) : atsE D s t = zonE D s ∧ atsR D s t = oZ := by
  unfold atsE atsR
  rw [if_neg h, if_neg h]
  exact ⟨rfl, rfl⟩
set_option maxRecDepth 100000 in
set_option maxHeartbeats 4000000 in
theorem TableSame_w (D : Dt) (s : ByteArray) (t : Int) (w : World) (hL : Laid w) (hM : Mx w) (hD : DAt w D) (hF : D.fits) (hs : s.size ≤ maxLen) (hi : -9223372036854775808 ≤ t ∧ t ≤ 9223372036854775807) :
    Calls Tryz.prog 4 #[D.v, .string s, .int .i64 t] w fun e w' => e = .returned (.bool true) ∧ Below w.heap.size w w' := by
  have HL := hideH hL
  have HM := hideH hM
  have HD := hideH hD
  have HE : Hid (∀ v : World, Below w.heap.size w v → Env v D) := fun v h => ⟨HL.out.on h, HM.out.on h, HD.out.on h⟩
  have HC := hideH (fun v (hv : Below w.heap.size w v) => Compile_c D s v (HE.out v hv) hF hs)
  have HA := hideH (fun v (hv : Below w.heap.size w v) => OAt_c D s t v (HE.out v hv) hF hs)
  have HT := hideH (fun v (hv : Below w.heap.size w v) => tableBegun_c v (HL.out.on hv) (HM.out.on hv))
  have hb0 := hideH ((Below.refl _ w).alloc (Nat.le_refl _) (.cells (dC D) 26))
  have hc0 := hideH (World.alloc_heap_new w (.cells (dC D) 26))
  clear hL hM hD hF hs hi
  go_enter Tryz.func4, Tryz.ntmps4
  go_wp2_with fail
  refine (HC.out _ hb0.out).mono ?_
  rintro e w1 ⟨hw1, ⟨h0, k, v, hk, hkz, rfl, ho⟩ | ⟨h0, rfl⟩⟩
  · have H1 := hideH (bthen hb0.out hw1)
    have C1 := hideH (heap_on hc0.out hw1)
    have HO := hideH ho
    obtain ⟨a, c, rfl, ht, hm⟩ := tu_own ho
    have T1 := hideH ht
    clear hw1 hb0 hc0 ho ht
    obtain ⟨n, hn⟩ : ∃ n, n = (cmpT D k).length := ⟨_, rfl⟩
    have HN := hideH hn
    rw [← hn] at T1 hm ⊢
    clear hn
    obtain ⟨c0, c1, c2⟩ := cells3 C1.out
    have hcz := (zon_ok h0).1
    by_cases ht : 0 ≤ t ∧ t < 1893456000
    · have hq := ats_in h0 hk ht
      have hlk := cmp_look hcz hkz ht
      rw [hq.1, hq.2] at HA
      rw [← HN.out] at hlk
      have HLk := hideH hlk
      generalize offR D k t = R at HA HLk
      obtain ⟨rt, rs, ra⟩ := R
      simp only [Of.v] at HA
      clear hq hlk ht hcz h0 hk hkz
      go_wp2_with fail
      refine (HA.out _ H1.out).mono ?_
      rintro e w2 ⟨rfl, hw2⟩
      have H2 := hideH (bthen H1.out hw2)
      have T2 := hideH (T1.out.on hw2)
      have V2 := hideH ((Below.refl _ w2).alloc (Nat.le_refl _) (.cells #[.int .i64 rt, .int .i64 rs, .string ra] 32))
      have Y2 := hideH (World.alloc_heap_new w2 (.cells #[.int .i64 rt, .int .i64 rs, .string ra] 32))
      clear hw2 c0 c1 c2 C1 T1 H1
      go_wp2_with fail
      refine (Look_c a n c _ t _ hm (T2.out.on V2.out)).mono ?_
      rintro e w3 ⟨rfl, hw3⟩
      rw [HLk.out.1, HLk.out.2]
      simp only [Of.v]
      have H3 := hideH (bthen (bthen H2.out V2.out) hw3)
      have Y3 := hideH (heap_on Y2.out hw3)
      have V3 := hideH ((Below.refl _ w3).alloc (Nat.le_refl _) (.cells #[.int .i64 rt, .int .i64 rs, .string ra] 32))
      have Z3 := hideH (World.alloc_heap_new w3 (.cells #[.int .i64 rt, .int .i64 rs, .string ra] 32))
      clear hw3 V2 Y2 H2 T2
      go_wp2_with fail
      refine (HT.out _ (bthen H3.out V3.out)).mono ?_
      rintro e w4 ⟨rfl, hw4⟩
      have H4 := hideH (bthen (bthen H3.out V3.out) hw4)
      obtain ⟨p0, p1, p2⟩ := cells3 (heap_on (heap_on Y3.out V3.out) hw4)
      obtain ⟨q0, q1, q2⟩ := cells3 (heap_on Z3.out hw4)
      clear hw4 V3 Z3 Y3 H3
      go_wp2_with fail
      go_ret
      exact ⟨rfl, H4.out⟩
    · have hq := ats_out h0 ht
      rw [hq.1, hq.2] at HA
      simp only [oZ, Of.v] at HA
      clear hq ht hcz h0 hk hkz
      go_wp2_with fail
      refine (HA.out _ H1.out).mono ?_
      rintro e w2 ⟨rfl, hw2⟩
      have H2 := hideH (bthen H1.out hw2)
      have V2 := hideH ((Below.refl _ w2).alloc (Nat.le_refl _) (.cells #[.int .i64 0, .int .i64 0, .string ⟨#[]⟩] 32))
      clear hw2 c0 c1 c2 C1 T1 H1
      go_wp2_with fail
      refine (HT.out _ (bthen H2.out V2.out)).mono ?_
      rintro e w4 ⟨rfl, hw4⟩
      have H4 := hideH (bthen (bthen H2.out V2.out) hw4)
      clear hw4 V2 H2
      go_wp2_with fail
      go_ret
      exact ⟨rfl, H4.out⟩
  · have H1 := hideH (bthen hb0.out hw1)
    have C1 := hideH (heap_on hc0.out hw1)
    clear hw1 hb0 hc0
    obtain ⟨c0, c1, c2⟩ := cells3 C1.out
    have hq := ats_none t h0
    rw [hq.1, hq.2] at HA
    simp only [oZ, Of.v] at HA
    have hne : (zonE D s != 0) = true := by rw [bne_iff_ne]; exact h0
    generalize zonE D s = E at HA hne
    clear hq h0
    go_wp2_with fail
    refine (HA.out _ H1.out).mono ?_
    rintro e w2 ⟨rfl, hw2⟩
    have H2 := hideH (bthen H1.out hw2)
    have V2 := hideH ((Below.refl _ w2).alloc (Nat.le_refl _) (.cells #[.int .i64 0, .int .i64 0, .string ⟨#[]⟩] 32))
    clear hw2 c0 c1 c2 C1 H1
    go_wp2_with fail
    refine (HT.out _ (bthen H2.out V2.out)).mono ?_
    rintro e w4 ⟨rfl, hw4⟩
    have H4 := hideH (bthen (bthen H2.out V2.out) hw4)
    clear hw4 V2 H2
    go_wp2_with fail
    go_ret
    exact ⟨rfl, H4.out⟩
end Go.Proofs.YtdffopkljomipaaGreatDoor

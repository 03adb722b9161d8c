/- The document's own OffOf; the walk of the statement OffTells. -/
import Derived.Test.YtainhpnmgligjacGreatDoorRefWAll
import Derived.Test.YtainhpnmgligjacGreatDoorRefJAll
import Derived.Test.YtainhpnmgligjacGreatDoorOffBegunAll
namespace Go.Proofs.YtainhpnmgligjacGreatDoor
open Go Go.RowKit Go.Maps
set_option linter.unusedVariables false

set_option maxRecDepth 100000 in
set_option maxHeartbeats 4000000 in
theorem OffOf_c (D : Dt) (s : ByteArray) (t : Int) (w : World) (hD : DAt w D) (hF : D.fits) (hs : s.size ≤ maxLen) :
    Calls Tryz.prog 7 #[D.v, .string s, .int .i64 t] w fun e w' => e = .returned (.tuple #[(atsR D s t).v, .int .i64 (atsE D s t)]) ∧ Below w.heap.size w w' := by
  have HD := hideH hD
  have bx := two_boxes w (.cells (dC D) 26) (.cells #[.int .i64 0, .int .i64 0, .string ⟨#[]⟩] 28)
  obtain ⟨W0, hW0⟩ : ∃ W0, W0 = (w.alloc (.cells (dC D) 26)).alloc (.cells #[.int .i64 0, .int .i64 0, .string ⟨#[]⟩] 28) := ⟨_, rfl⟩
  rw [← hW0] at bx
  have HB := hideH bx.1
  have HC := hideH bx.2.1
  have HO := hideH bx.2.2
  have HZ : Hid (∀ v, Below w.heap.size w v → Calls Tryz.prog 19 #[D.v, .string s] v fun e w' => e = .returned (.tuple #[.int .i64 (zonR D s), .int .i64 (zonE D s)]) ∧ Below v.heap.size v w') := fun v hv => ZoneOf_c D s v (HD.out.on hv) hF hs
  have HT : Hid (zonE D s = 0 → 0 ≤ t → t < 1893456000 → ∃ k : Nat, zonR D s = k ∧ atsR D s t = offR D k t ∧ ∀ v, Below w.heap.size w v → Calls Tryz.prog 21 #[D.v, .int .i64 k, .int .i64 t] v fun e w' => e = .returned (offR D k t).v ∧ Below v.heap.size v w') := fun h0 t0 t1 => by
    obtain ⟨hc, k, hk, hkz⟩ := zon_ok h0
    refine ⟨k, hk, ?_, fun v hv => holds_c D k t v (HD.out.on hv) hc hkz t0 t1⟩
    unfold atsR; rw [if_pos h0, if_pos ⟨t0, t1⟩, hk]; rfl
  obtain ⟨R, hR⟩ : ∃ R, R = atsR D s t := ⟨_, rfl⟩
  obtain ⟨E, hE⟩ : ∃ E, E = atsE D s t := ⟨_, rfl⟩
  rw [← hR, ← hE]
  have HR := hideH hR
  have HE := hideH hE
  clear hR hE hD hF hs bx
  go_enter Tryz.func7, Tryz.ntmps7
  go_wp2_with fail
  simp only [dC] at hW0
  simp only [← hW0]
  clear hW0
  refine (HZ.out _ HB.out).mono ?_
  rintro e w1 ⟨rfl, hw1⟩
  have H1 := hideH (bthen HB.out hw1)
  have C1 := hideH (heap_on HC.out hw1)
  have O1 := hideH (heap_on HO.out hw1)
  clear hw1 HB HC HO HZ
  rcases beq_cases (zonE D s) 0 with ⟨q1, q2⟩ | ⟨q1, q2⟩
  · have HQ := hideH q2
    rw [q2]
    clear q1 q2
    by_cases ht : 0 ≤ t ∧ t ≤ 1893455999
    · have hin := in_mk ht
      obtain ⟨k, hk, hR2, hH⟩ := HT.out HQ.out ht.1 (by omega)
      have HH := hideH hH
      have e1 : E = 0 := by rw [HE.out]; unfold atsE; rw [if_pos HQ.out, if_pos ⟨ht.1, by omega⟩]
      have e2 : R = offR D k t := by rw [HR.out, hR2]
      have HX1 := hideH e1
      have HX2 := hideH e2
      rw [hk]
      clear hH hR2 hk e1 e2
      obtain ⟨c0, c1, c2⟩ := cells3 C1.out
      go_wp2_with (go_at_call 20; refine (isTime_c _ _).mono ?_; rintro e w2 ⟨rfl, rfl⟩)
      refine (HH.out _ H1.out).mono ?_
      rintro e w3 ⟨rfl, hw3⟩
      have H3 := hideH (bthen H1.out hw3)
      have o3 := heap_on O1.out hw3
      have O3 := hideH o3
      obtain ⟨p0, p1, p2⟩ := cells3 o3
      have g0 := frozen3 o3 0
      have g1 := frozen3 o3 1
      have g2 := frozen3 o3 2
      generalize offR D k t = Q at HX2 ⊢
      clear hw3 o3 HH c0 c1 c2 C1
      go_wp2_with fail
      refine bodyPost_ret (v := .tuple #[.agg #[.int .i64 Q.tot, .int .i64 Q.sv, .string Q.ab], .int .i64 0]) ?_ rfl ⟨by rw [HX1.out, HX2.out], ?_⟩
      · have q0 := setCell_at (o := 2) (setCell_at (o := 1) (setCell_at (o := 0) O3.out (.int .i64 Q.tot)) (.int .i64 Q.sv)) (.string Q.ab)
        obtain ⟨y0, y1, y2⟩ := cells3 q0
        simp [results, Tryz.results7, go_sem, y0, y1, y2]
      · exact ((H3.out.setCell (p := ⟨w.heap.size + 1, 0, none⟩) (by simp) _).setCell (p := ⟨w.heap.size + 1, 1, none⟩) (by simp) _).setCell (p := ⟨w.heap.size + 1, 2, none⟩) (by simp) _
    · have hin := in_not ht
      have e1 : E = 3 := by rw [HE.out]; unfold atsE; rw [if_pos HQ.out, if_neg (by omega)]
      have e2 : R = oZ := by rw [HR.out]; unfold atsR; rw [if_pos HQ.out, if_neg (by omega)]
      have HX1 := hideH e1
      have HX2 := hideH e2
      clear e1 e2
      have O3 := O1
      obtain ⟨p0, p1, p2⟩ := cells3 O1.out
      have g0 := frozen3 O1.out 0
      have g1 := frozen3 O1.out 1
      have g2 := frozen3 O1.out 2
      generalize zonR D s = Z
      clear C1
      go_wp2_with (go_at_call 20; refine (isTime_c _ _).mono ?_; rintro e w1 ⟨rfl, rfl⟩)
      refine bodyPost_ret (v := .tuple #[.agg #[.int .i64 0, .int .i64 0, .string ⟨#[]⟩], .int .i64 3]) ?_ rfl ⟨by rw [HX1.out, HX2.out]; rfl, ?_⟩
      · have q0 := setCell_at (o := 2) (setCell_at (o := 1) (setCell_at (o := 0) O3.out (.int .i64 0)) (.int .i64 0)) (.string ⟨#[]⟩)
        obtain ⟨y0, y1, y2⟩ := cells3 q0
        simp [results, Tryz.results7, go_sem, y0, y1, y2]
      · exact ((H1.out.setCell (p := ⟨w.heap.size + 1, 0, none⟩) (by simp) _).setCell (p := ⟨w.heap.size + 1, 1, none⟩) (by simp) _).setCell (p := ⟨w.heap.size + 1, 2, none⟩) (by simp) _
  · have hne : (zonE D s != 0) = true := by rw [bne_iff_ne]; exact q2
    have e1 : E = zonE D s := by rw [HE.out]; unfold atsE; rw [if_neg q2]
    have e2 : R = oZ := by rw [HR.out]; unfold atsR; rw [if_neg q2]
    have HX1 := hideH e1
    have HX2 := hideH e2
    clear e1 e2 q1 q2 HR HE HT
    have O3 := O1
    obtain ⟨p0, p1, p2⟩ := cells3 O1.out
    have g0 := frozen3 O1.out 0
    have g1 := frozen3 O1.out 1
    have g2 := frozen3 O1.out 2
    clear C1
    generalize zonE D s = E2 at hne HX1 ⊢
    generalize zonR D s = Z
    go_wp2_with fail
    refine bodyPost_ret (v := .tuple #[.agg #[.int .i64 0, .int .i64 0, .string ⟨#[]⟩], .int .i64 E2]) ?_ rfl ⟨by rw [HX1.out, HX2.out]; rfl, ?_⟩
    · have q0 := setCell_at (o := 2) (setCell_at (o := 1) (setCell_at (o := 0) O3.out (.int .i64 0)) (.int .i64 0)) (.string ⟨#[]⟩)
      obtain ⟨y0, y1, y2⟩ := cells3 q0
      simp [results, Tryz.results7, go_sem, y0, y1, y2]
    · exact ((H1.out.setCell (p := ⟨w.heap.size + 1, 0, none⟩) (by simp) _).setCell (p := ⟨w.heap.size + 1, 1, none⟩) (by simp) _).setCell (p := ⟨w.heap.size + 1, 2, none⟩) (by simp) _
set_option maxRecDepth 100000 in
set_option maxHeartbeats 4000000 in
theorem OffTells_w (D : Dt) (s : ByteArray) (t : Int) (w : World) (hL : Laid w) (hM : Mx w) (hD : DAt w D) (hF : D.fits) (hs : s.size ≤ maxLen) (hi : -9223372036854775808 ≤ t ∧ t ≤ 9223372036854775807) :
    Calls Tryz.prog 3 #[D.v, .string s, .int .i64 t] w fun e w' => e = .returned (.bool true) ∧ Below w.heap.size w w' := by
  have HL := hideH hL
  have HM := hideH hM
  have HD := hideH hD
  have HE : Hid (∀ v : World, Below w.heap.size w v → Env v D) := fun v h => ⟨HL.out.on h, HM.out.on h, HD.out.on h⟩
  have HA1 := hideH (fun v (hv : Below w.heap.size w v) => OAt_c D s t v (HE.out v hv) hF hs)
  have HA2 := hideH (fun v (hv : Below w.heap.size w v) => OffOf_c D s t v (HD.out.on hv) hF hs)
  generalize atsR D s t = R at HA1 HA2
  generalize atsE D s t = E at HA1 HA2
  obtain ⟨rt, rs, ra⟩ := R
  simp only [Of.v] at HA1 HA2
  clear hL hM hD hF hs hi
  have hb0 := hideH ((Below.refl _ w).alloc (Nat.le_refl _) (.cells (dC D) 26))
  have hc0 := hideH (World.alloc_heap_new w (.cells (dC D) 26))
  go_enter Tryz.func3, Tryz.ntmps3
  go_wp2_with fail
  refine (HA1.out _ hb0.out).mono ?_
  rintro e w1 ⟨rfl, hw1⟩
  have H1 := hideH (bthen hb0.out hw1)
  have C1 := hideH (heap_on hc0.out hw1)
  clear hw1 hb0 hc0
  have V1 := hideH ((Below.refl _ w1).alloc (Nat.le_refl _) (.cells #[.int .i64 rt, .int .i64 rs, .string ra] 28))
  obtain ⟨c0, c1, c2⟩ := cells3 (heap_on C1.out V1.out)
  have hlw : w.heap.size < w1.heap.size := (Array.getElem?_eq_some_iff.1 C1.out).1
  go_wp2_with fail
  clear c0 c1 c2 hlw
  have X1 := hideH (World.alloc_heap_new w1 (.cells #[.int .i64 rt, .int .i64 rs, .string ra] 28))
  refine (HA2.out _ (bthen H1.out V1.out)).mono ?_
  rintro e w2 ⟨rfl, hw2⟩
  have H2 := hideH (bthen (bthen H1.out V1.out) hw2)
  have X2 := hideH (heap_on X1.out hw2)
  clear hw2 V1 X1 H1
  go_wp2_with fail
  have V2 := hideH ((Below.refl _ w2).alloc (Nat.le_refl _) (.cells #[.int .i64 rt, .int .i64 rs, .string ra] 28))
  have Y2 := hideH (World.alloc_heap_new w2 (.cells #[.int .i64 rt, .int .i64 rs, .string ra] 28))
  refine (offBegun_c _ (HL.out.on (bthen H2.out V2.out)) (HM.out.on (bthen H2.out V2.out))).mono ?_
  rintro e w3 ⟨rfl, hw3⟩
  have H3 := hideH (bthen (bthen H2.out V2.out) hw3)
  obtain ⟨p0, p1, p2⟩ := cells3 (heap_on (heap_on X2.out V2.out) hw3)
  obtain ⟨q0, q1, q2⟩ := cells3 (heap_on Y2.out hw3)
  clear hw3 V2 Y2 X2 H2
  go_wp2_with fail
  go_ret
  exact ⟨rfl, H3.out⟩
end Go.Proofs.YtainhpnmgligjacGreatDoor

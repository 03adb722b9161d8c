/- The contract of off.At, whole. -/
import Derived.Test.YtdffopkljomipaaGreatDoorOffD
namespace Go.Proofs.YtdffopkljomipaaGreatDoor
open Go Go.RowKit Go.Maps
set_option linter.unusedVariables false

set_option maxRecDepth 100000 in
set_option maxHeartbeats 2000000 in
theorem At_no (D : Dt) (s : ByteArray) (t : Int) (w : World) (hE : Env w D) (hF : D.fits) (hs : s.size ≤ maxLen) (h0 : zonE D s ≠ 0) (hz : zonR D s = 0) :
    Calls Tryz.prog 13 #[D.v, .string s, .int .i64 t] w fun e w' => e = .returned (.tuple #[oZ.v, .int .i64 (zonE D s)]) ∧ Below w.heap.size w w' := by
  have HE := hideH hE
  have HF := hideH hF
  have bx := two_boxes w (.cells (dC D) 26) (.cells #[.int .i64 0, .int .i64 0, .string ⟨#[]⟩] 32)
  obtain ⟨W0, hW0⟩ : ∃ W0, W0 = (w.alloc (.cells (dC D) 26)).alloc (.cells #[.int .i64 0, .int .i64 0, .string ⟨#[]⟩] 32) := ⟨_, rfl⟩
  rw [← hW0] at bx
  have HB := hideH bx.1
  have HC := hideH bx.2.1
  have HO := hideH bx.2.2
  have HZ : Hid (∀ v, Below w.heap.size w v → Calls Tryz.prog 15 #[D.v, .string s] v fun e w' => e = .returned (.tuple #[.int .i64 0, .int .i64 (zonE D s)]) ∧ Below v.heap.size v w') := fun v hv => by
    have := DZone_c D s v (HE.out.on hv) HF.out hs
    rwa [hz] at this
  have hne : (zonE D s != 0) = true := by rw [bne_iff_ne]; exact h0
  show Calls _ _ _ _ fun e w' => e = .returned (.tuple #[.agg #[.int .i64 0, .int .i64 0, .string ⟨#[]⟩], .int .i64 (zonE D s)]) ∧ Below w.heap.size w w'
  clear hE hF hs h0 bx hz
  generalize zonE D s = E at *
  go_enter Tryz.func13, Tryz.ntmps13
  go_wp2_with fail
  simp only [dC] at hW0
  simp only [← hW0]
  clear hW0
  refine (HZ.out _ HB.out).mono ?_
  rintro e w1 ⟨rfl, hw1⟩
  have H1 := hideH (bthen HB.out hw1)
  have o1 := heap_on HO.out hw1
  have O1 := hideH o1
  obtain ⟨p0, p1, p2⟩ := cells3 o1
  have g0 := frozen3 o1 0
  have g1 := frozen3 o1 1
  have g2 := frozen3 o1 2
  clear hw1 HB HC HO HZ o1
  go_wp2_with fail
  refine bodyPost_ret (v := .tuple #[.agg #[.int .i64 0, .int .i64 0, .string ⟨#[]⟩], .int .i64 E]) ?_ rfl ⟨rfl, ?_⟩
  · have q0 := setCell_at (o := 2) (setCell_at (o := 1) (setCell_at (o := 0) O1.out (.int .i64 0)) (.int .i64 0)) (.string ⟨#[]⟩)
    obtain ⟨y0, y1, y2⟩ := cells3 q0
    simp [results, Tryz.results13, go_sem, y0, y1, y2]
  · exact ((H1.out.setCell (p := ⟨w.heap.size + 1, 0, none⟩) (by simp) _).setCell (p := ⟨w.heap.size + 1, 1, none⟩) (by simp) _).setCell (p := ⟨w.heap.size + 1, 2, none⟩) (by simp) _

set_option maxRecDepth 100000 in
set_option maxHeartbeats 2000000 in
theorem At_rng (D : Dt) (s : ByteArray) (t : Int) (w : World) (hE : Env w D) (hF : D.fits) (hs : s.size ≤ maxLen) (h0 : zonE D s = 0) (ht : t < 0 ∨ 1893456000 ≤ t) :
    Calls Tryz.prog 13 #[D.v, .string s, .int .i64 t] w fun e w' => e = .returned (.tuple #[oZ.v, .int .i64 3]) ∧ Below w.heap.size w w' := by
  have HE := hideH hE
  have HF := hideH hF
  have bx := two_boxes w (.cells (dC D) 26) (.cells #[.int .i64 0, .int .i64 0, .string ⟨#[]⟩] 32)
  obtain ⟨W0, hW0⟩ : ∃ W0, W0 = (w.alloc (.cells (dC D) 26)).alloc (.cells #[.int .i64 0, .int .i64 0, .string ⟨#[]⟩] 32) := ⟨_, rfl⟩
  rw [← hW0] at bx
  have HB := hideH bx.1
  have HC := hideH bx.2.1
  have HO := hideH bx.2.2
  have HZ : Hid (∀ v, Below w.heap.size w v → Calls Tryz.prog 15 #[D.v, .string s] v fun e w' => e = .returned (.tuple #[.int .i64 (zonR D s), .int .i64 0]) ∧ Below v.heap.size v w') := fun v hv => by
    have := DZone_c D s v (HE.out.on hv) HF.out hs
    rwa [h0] at this
  show Calls _ _ _ _ fun e w' => e = .returned (.tuple #[.agg #[.int .i64 0, .int .i64 0, .string ⟨#[]⟩], .int .i64 3]) ∧ Below w.heap.size w w'
  clear hE hF hs h0 bx
  generalize zonR D s = R at *
  have hcc : t < 0 ∨ (0 ≤ t ∧ 1893456000 ≤ t) := by omega
  rcases hcc with hcc | ⟨hcc, hcd⟩
  all_goals
    clear ht
    go_enter Tryz.func13, Tryz.ntmps13
    go_wp2_with fail
    simp only [dC] at hW0
    simp only [← hW0]
    clear hW0
    refine (HZ.out _ HB.out).mono ?_
    rintro e w1 ⟨rfl, hw1⟩
    have H1 := hideH (bthen HB.out hw1)
    have o1 := heap_on HO.out hw1
    have O1 := hideH o1
    obtain ⟨p0, p1, p2⟩ := cells3 o1
    have g0 := frozen3 o1 0
    have g1 := frozen3 o1 1
    have g2 := frozen3 o1 2
    clear hw1 HB HC HO HZ o1
    go_wp2_with fail
    refine bodyPost_ret (v := .tuple #[.agg #[.int .i64 0, .int .i64 0, .string ⟨#[]⟩], .int .i64 3]) ?_ rfl ⟨rfl, ?_⟩
    · have q0 := setCell_at (o := 2) (setCell_at (o := 1) (setCell_at (o := 0) O1.out (.int .i64 0)) (.int .i64 0)) (.string ⟨#[]⟩)
      obtain ⟨y0, y1, y2⟩ := cells3 q0
      simp [results, Tryz.results13, go_sem, y0, y1, y2]
    · exact ((H1.out.setCell (p := ⟨w.heap.size + 1, 0, none⟩) (by simp) _).setCell (p := ⟨w.heap.size + 1, 1, none⟩) (by simp) _).setCell (p := ⟨w.heap.size + 1, 2, none⟩) (by simp) _

/-- off.At -/
theorem OAt_c (D : Dt) (s : ByteArray) (t : Int) (w : World) (hE : Env w D) (hF : D.fits) (hs : s.size ≤ maxLen) :
    Calls Tryz.prog 13 #[D.v, .string s, .int .i64 t] w fun e w' => e = .returned (.tuple #[(atsR D s t).v, .int .i64 (atsE D s t)]) ∧ Below w.heap.size w w' := by
  by_cases h0 : zonE D s = 0
  · obtain ⟨hc, k, hk, hkz⟩ := zon_ok h0
    by_cases ht : 0 ≤ t ∧ t < 1893456000
    · have e1 : atsE D s t = 0 := by unfold atsE; rw [if_pos h0, if_pos ht]
      have e2 : atsR D s t = offR D k t := by unfold atsR; rw [if_pos h0, if_pos ht, hk]; rfl
      rw [e1, e2]
      by_cases hs0 : 0 ≤ (offX D k t).set
      · exact At_rule D s t k w hE hF hs h0 hk hkz hc ht.1 ht.2 hs0
      · exact At_bare D s t k w hE hF hs h0 hk hkz hc ht.1 ht.2 (by omega)
    · have e1 : atsE D s t = 3 := by unfold atsE; rw [if_pos h0, if_neg ht]
      have e2 : atsR D s t = oZ := by unfold atsR; rw [if_pos h0, if_neg ht]
      rw [e1, e2]
      exact At_rng D s t w hE hF hs h0 (by omega)
  · have e1 : atsE D s t = zonE D s := by unfold atsE; rw [if_neg h0]
    have e2 : atsR D s t = oZ := by unfold atsR; rw [if_neg h0]
    rw [e1, e2]
    refine At_no D s t w hE hF hs h0 ?_
    unfold zonR
    unfold zonE at h0
    split
    · rename_i hc
      rw [if_pos hc] at h0
      rw [if_neg h0]
    · rfl
end Go.Proofs.YtdffopkljomipaaGreatDoor

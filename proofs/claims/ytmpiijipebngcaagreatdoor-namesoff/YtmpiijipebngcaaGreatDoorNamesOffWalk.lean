/- The walk of the statement NamesOff: it returns true, and nothing that lay in memory has turned. -/
import Derived.Test.YtmpiijipebngcaaGreatDoorNamesDAll
namespace Go.Proofs.YtmpiijipebngcaaGreatDoor
open Go Go.RowKit Go.Maps
set_option linter.unusedVariables false

set_option maxRecDepth 100000 in
set_option maxHeartbeats 8000000 in
theorem NamesOff_w (X : Wd) (loc one two : ByteArray) (t : Int) (w : World) (hE : NEnv w X) (hs0 : loc.size ≤ maxLen) (hs1 : one.size ≤ maxLen) (hs2 : two.size ≤ maxLen) (ht : -9223372036854775808 ≤ t ∧ t ≤ 9223372036854775807) : Calls Tryz.prog 5 #[X.v, .string loc, .string one, .string two, .int .i64 t] w fun e w' => e = .returned (.bool true) ∧ Below w.heap.size w w' := by
  have HE := hideH hE
  have HB := hideH ((Below.refl _ w).alloc (Nat.le_refl _) (.cells X.cs 30))
  have HC := hideH (World.alloc_heap_new w (.cells X.cs 30))
  have HN1 := hideH (fun v (hv : Below w.heap.size w v) => NName_c X loc one t 1 v (HE.out.on hv) hs1)
  have HN2 := hideH (fun v (hv : Below w.heap.size w v) => NName_c X loc two t 1 v (HE.out.on hv) hs2)
  have HA1 := hideH (fun v (hv : Below w.heap.size w v) => OAt_c X.D one t v (HE.out.on hv).ue.env hE.ue.dfit hs1)
  have HA2 := hideH (fun v (hv : Below w.heap.size w v) => OAt_c X.D two t v (HE.out.on hv).ue.env hE.ue.dfit hs2)
  have HG := hideH (fun v (hv : Below w.heap.size w v) => namesBegun_c v (HE.out.on hv).ue.env.laid (HE.out.on hv).ue.env.mx)
  have key : (nmE X loc one t 1 ≠ 0 ∨ nmE X loc one t 1 = 0 ∧ nmE X loc two t 1 ≠ 0) ∨ (nmE X loc one t 1 = 0 ∧ nmE X loc two t 1 = 0) := by omega
  simp only [Of.v] at HA1 HA2
  clear hE hs0 hs1 hs2
  rcases key with hk | ⟨k1, k2⟩
  · have hk2 : (nmE X loc one t 1 != 0) = true ∨ (nmE X loc one t 1 = 0 ∧ (nmE X loc two t 1 != 0) = true) := by
      rcases hk with h | ⟨h, h'⟩
      · exact .inl (by rw [bne_iff_ne]; exact h)
      · exact .inr ⟨h, by rw [bne_iff_ne]; exact h'⟩
    clear hk
    generalize nmE X loc one t 1 = e1 at *
    generalize nmR X loc one t 1 = r1 at *
    generalize nmE X loc two t 1 = e2 at *
    generalize nmR X loc two t 1 = r2 at *
    generalize atsR X.D one t = o1 at *
    generalize atsE X.D one t = f1 at *
    generalize atsR X.D two t = o2 at *
    generalize atsE X.D two t = f2 at *
    rcases hk2 with hk | ⟨rfl, hk⟩
    all_goals
      obtain ⟨c0, c1, c2, c3, c4⟩ := cells5n HC.out
      go_enter Tryz.func5, Tryz.ntmps5
      go_wp2_with fail
      refine (HN1.out _ HB.out).mono ?_
      rintro e w1 ⟨rfl, hw⟩
      have H1 := hideH (bthen HB.out hw)
      have C1 := hideH (heap_on HC.out hw)
      clear hw c0 c1 c2 c3 c4 HN1 HB HC
      obtain ⟨c0, c1, c2, c3, c4⟩ := cells5n C1.out
      go_wp2_with fail
      refine (HN2.out _ H1.out).mono ?_
      rintro e w2 ⟨rfl, hw⟩
      have H2 := hideH (bthen H1.out hw)
      have C2 := hideH (heap_on C1.out hw)
      clear hw c0 c1 c2 c3 c4 HN2 H1 C1
      obtain ⟨c0, c1, c2, c3, c4⟩ := cells5n C2.out
      go_wp2_with fail
      refine (HA1.out _ H2.out).mono ?_
      rintro e w3 ⟨rfl, hw⟩
      have b3 := (Below.refl _ w3).alloc (Nat.le_refl _) (ofC o1)
      have H3 := hideH (bthen (bthen H2.out hw) b3)
      have C3 := hideH (heap_on (heap_on C2.out hw) b3)
      clear hw c0 c1 c2 c3 c4 HA1 H2 C2 b3
      obtain ⟨c0, c1, c2, c3, c4⟩ := cells5n C3.out
      go_wp2_with fail
      refine (HA2.out _ H3.out).mono ?_
      rintro e w4 ⟨rfl, hw⟩
      have H4 := hideH (bthen (bthen H3.out hw) ((Below.refl _ w4).alloc (Nat.le_refl _) (ofC o2)))
      clear hw c0 c1 c2 c3 c4 HA2 H3 C3
      go_wp2_with fail
      refine (HG.out _ H4.out).mono ?_
      rintro e w5 ⟨rfl, hw⟩
      go_wp2_with fail
      go_ret
      exact ⟨rfl, bthen H4.out hw⟩
  · obtain ⟨n0, n1, n2, n3, n4, n5⟩ := nmE_ok k1
    obtain ⟨m0, m1, m2, m3, m4, m5⟩ := nmE_ok k2
    rw [k1, nm_off1 k1] at HN1
    rw [k2, nm_off1 k2] at HN2
    rw [ats_to n3 ⟨n4, n5⟩] at HA1
    rw [ats_to m3 ⟨n4, n5⟩] at HA2
    obtain ⟨a1, a2⟩ := tot_16 n0 one t
    obtain ⟨b1, b2⟩ := tot_16 n0 two t
    have hq := shw3_eq a1 a2 b1 b2
    clear n0 n1 n2 n3 n4 n5 m0 m1 m2 m3 m4 m5 k1 k2
    generalize atsR X.D one t = o1 at *
    generalize atsR X.D two t = o2 at *
    obtain ⟨x, x2, x3⟩ := o1
    obtain ⟨y, y2, y3⟩ := o2
    simp only at *
    generalize shwT 3 (q60 x) = T1 at *
    generalize shwT 3 (q60 y) = T2 at *
    obtain ⟨dx, hdx⟩ : ∃ d, d = x.tdiv 60 := ⟨_, rfl⟩
    obtain ⟨dy, hdy⟩ : ∃ d, d = y.tdiv 60 := ⟨_, rfl⟩
    have hx2 : -57600 ≤ dx ∧ dx ≤ 57600 := by have := Int.mul_tdiv_add_tmod x 60; have r1 := Int.tmod_lt_of_pos x (show (0 : Int) < 60 by omega); have r2 := Int.lt_tmod_of_pos x (show (0 : Int) < 60 by omega); omega
    have hy2 : -57600 ≤ dy ∧ dy ≤ 57600 := by have := Int.mul_tdiv_add_tmod y 60; have r1 := Int.tmod_lt_of_pos y (show (0 : Int) < 60 by omega); have r2 := Int.lt_tmod_of_pos y (show (0 : Int) < 60 by omega); omega
    rw [← hdx, ← hdy] at hq
    obtain ⟨c0, c1, c2, c3, c4⟩ := cells5n HC.out
    go_enter Tryz.func5, Tryz.ntmps5
    go_wp2_with fail
    refine (HN1.out _ HB.out).mono ?_
    rintro e w1 ⟨rfl, hw⟩
    have H1 := hideH (bthen HB.out hw)
    have C1 := hideH (heap_on HC.out hw)
    clear hw c0 c1 c2 c3 c4 HN1 HB HC
    obtain ⟨c0, c1, c2, c3, c4⟩ := cells5n C1.out
    go_wp2_with fail
    refine (HN2.out _ H1.out).mono ?_
    rintro e w2 ⟨rfl, hw⟩
    have H2 := hideH (bthen H1.out hw)
    have C2 := hideH (heap_on C1.out hw)
    clear hw c0 c1 c2 c3 c4 HN2 H1 C1
    obtain ⟨c0, c1, c2, c3, c4⟩ := cells5n C2.out
    go_wp2_with fail
    refine (HA1.out _ H2.out).mono ?_
    rintro e w3 ⟨rfl, hw⟩
    have b3 := (Below.refl _ w3).alloc (Nat.le_refl _) (ofC ⟨x, x2, x3⟩)
    have A3 := hideH (World.alloc_heap_new w3 (ofC ⟨x, x2, x3⟩))
    have H3 := hideH (bthen (bthen H2.out hw) b3)
    have C3 := hideH (heap_on (heap_on C2.out hw) b3)
    clear hw c0 c1 c2 c3 c4 HA1 H2 C2 b3
    obtain ⟨c0, c1, c2, c3, c4⟩ := cells5n C3.out
    go_wp2_with fail
    refine (HA2.out _ H3.out).mono ?_
    rintro e w4 ⟨rfl, hw⟩
    have b4 := (Below.refl _ w4).alloc (Nat.le_refl _) (ofC ⟨y, y2, y3⟩)
    have A4 := hideH (heap_on (heap_on A3.out hw) b4)
    have B4 := hideH (World.alloc_heap_new w4 (ofC ⟨y, y2, y3⟩))
    have H4 := hideH (bthen (bthen H3.out hw) b4)
    clear hw c0 c1 c2 c3 c4 HA2 H3 C3 A3 b4
    go_wp2_with fail
    refine (HG.out _ H4.out).mono ?_
    rintro e w5 ⟨rfl, hw⟩
    have H5 := hideH (bthen H4.out hw)
    obtain ⟨d0, d1, d2⟩ := cells3 (heap_on A4.out hw)
    obtain ⟨g0, g1, g2⟩ := cells3 (heap_on B4.out hw)
    clear hw H4 A4 B4
    go_wp2_with fail
    go_ret
    exact ⟨rfl, H5.out⟩
end Go.Proofs.YtmpiijipebngcaaGreatDoor

/- The walk of SourceShows. -/
import Derived.Test.YtbpdbggojgijiaaGreatDoorSrcRL
namespace Go.Proofs.YtbpdbggojgijiaaGreatDoor.Src
open Go Go.RowKit Go.Maps
set_option linter.unusedVariables false
set_option linter.unusedSimpArgs false

set_option maxRecDepth 100000 in
set_option maxHeartbeats 16000000 in
theorem SourceShows_x (D : Dt) (s : By) (w : World) (hE : SrE w) (hD : DAt w D) (hF : D.fits) :
    Calls Tryz.prog 3 #[D.v, .string ⟨s.toArray⟩] w fun e w' => e = .returned (.bool true) ∧ Below w.heap.size w w' := by
  have b0 := (Below.refl _ w).alloc (Nat.le_refl _) (.cells #[.slice D.sa D.ns D.sc, .slice D.za D.nz D.zc, .slice D.la D.nl D.lc] 26)
  have HS0 := hideS (Show_c D _ (hE.on b0) (hD.on b0) hF)
  have HE := hideS hE
  have HF := hideS hF
  have B0 := hideS b0
  have D0 := hideS (hD.on b0)
  have Q0 : Hid ((w.alloc (.cells #[.slice D.sa D.ns D.sc, .slice D.za D.nz D.zc, .slice D.la D.nl D.lc] 26)).heap[w.heap.size]? = some (.cells #[.slice D.sa D.ns D.sc, .slice D.za D.nz D.zc, .slice D.la D.nl D.lc] 26)) := World.alloc_heap_new _ _
  have HBg : Hid (∀ v : World, Below w.heap.size w v → Calls Tryz.prog 9 #[] v fun e w' => e = .returned (.bool true) ∧ Below v.heap.size v w') := fun v hv => sourceBegun_c v (HE.out.on hv)
  have HCd : Hid (∀ v : World, DAt v D → Calls Tryz.prog 6 #[.agg #[.slice D.sa D.ns D.sc, .slice D.za D.nz D.zc, .slice D.la D.nl D.lc]] v fun e w' => e = .returned (.int .i64 (chkE D)) ∧ Below v.heap.size v w') := fun v hv => CheckData_c D v hv HF.out
  by_cases h0 : chkE D = 0
  · have HTx : Hid (∀ v : World, DAt v D → Calls Tryz.prog 7 #[.agg #[.slice D.sa D.ns D.sc, .slice D.za D.nz D.zc, .slice D.la D.nl D.lc]] v fun e w' => e = .returned (.string ⟨(showD D).toArray⟩) ∧ Below v.heap.size v w') := fun v hv => DataText_c D v hv h0
    have hsh : shT D = showD D := by
      unfold shT
      rw [if_pos h0]
    rw [hsh, h0] at HS0
    simp only [h0] at HCd
    obtain ⟨X, hX⟩ : ∃ X, X = showD D := ⟨_, rfl⟩
    rw [← hX] at HTx HS0
    clear hE hD hF b0 hX hsh h0
    go_enter Tryz.func3, Tryz.ntmps3
    go_wp2_with (first
      | (go_at_call 5; refine HS0.out.mono ?_; rintro e u1 ⟨rfl, hb1⟩; have H1 := hideS (bthen B0.out hb1); have D1 := hideS (D0.out.on hb1); have Q1 := hideS (heap_on Q0.out hb1); obtain ⟨p0, p1, p2⟩ := cells3 Q1.out; clear hb1)
      | (go_at_call 6; refine (HCd.out _ D1.out).mono ?_; rintro e u2 ⟨rfl, hb2⟩; have J2 := hideS (bthen H1.out hb2); have D2 := hideS (D1.out.on hb2); have Q2 := hideS (heap_on Q1.out hb2); obtain ⟨q0, q1, q2⟩ := cells3 Q2.out; clear hb2)
      | (go_at_call 7; refine (HTx.out _ D2.out).mono ?_; rintro e u3 ⟨rfl, hb3⟩; have J3 := hideS (bthen J2.out hb3); clear hb3; refine unhid ?_))
    clear p0 p1 p2 q0 q1 q2 D0 D1 D2 Q0 Q1 Q2 HS0 B0 H1 J2
    refine hideS ?_
    go_wp2_with fail
    refine (Read_c s _ (HE.out.on J3.out)).mono ?_
    rintro e v2 ⟨hq, hw⟩
    have H2 := hideS (bthen J3.out hw)
    clear hw
    rcases hq with ⟨hl, rfl⟩ | ⟨hl, D1, d1, f1, p1, ⟨hc1, hs1, rfl⟩ | ⟨hn1, rfl⟩⟩
    · have hl2 : (4096 : Int) < s.length := by omega
      have V3 := hideS ((Below.refl _ v2).alloc (Nat.le_refl _) (.cells #[.slice none 0 0, .slice none 0 0, .slice none 0 0] 26))
      have X3 : Hid ((v2.alloc (.cells #[.slice none 0 0, .slice none 0 0, .slice none 0 0] 26)).heap[v2.heap.size]? = some (.cells #[.slice none 0 0, .slice none 0 0, .slice none 0 0] 26)) := World.alloc_heap_new _ _
      have H3 := hideS (bthen H2.out V3.out)
      clear hl
      go_wp2_with (first
        | (go_at_call 9; refine (HBg.out _ H3.out).mono ?_; rintro e v6 ⟨rfl, hb6⟩; have H6 := hideS (bthen H3.out hb6); have X6 := heap_on X3.out hb6; obtain ⟨x0, x1, x2⟩ := cells3 X6; clear X6; clear hb6)
        | (go_at_call 10; refine (same_none _).mono ?_; rintro e v7 ⟨rfl, hb7⟩))
      go_ret
      exact ⟨rfl, bthen H6.out hb7⟩
    · have hl2 : ¬ (4096 : Int) < s.length := by omega
      have V3 := hideS ((Below.refl _ v2).alloc (Nat.le_refl _) (.cells #[.slice D1.sa D1.ns D1.sc, .slice D1.za D1.nz D1.zc, .slice D1.la D1.nl D1.lc] 26))
      have X3 : Hid ((v2.alloc (.cells #[.slice D1.sa D1.ns D1.sc, .slice D1.za D1.nz D1.zc, .slice D1.la D1.nl D1.lc] 26)).heap[v2.heap.size]? = some (.cells #[.slice D1.sa D1.ns D1.sc, .slice D1.za D1.nz D1.zc, .slice D1.la D1.nl D1.lc] 26)) := World.alloc_heap_new _ _
      have A3 := hideS (d1.on V3.out)
      have F1 := hideS f1
      obtain ⟨W3, hW3⟩ : ∃ W3, W3 = v2.alloc (.cells #[.slice D1.sa D1.ns D1.sc, .slice D1.za D1.nz D1.zc, .slice D1.la D1.nl D1.lc] 26) := ⟨_, rfl⟩
      obtain ⟨g3, hg3⟩ : ∃ g3, g3 = v2.heap.size := ⟨_, rfl⟩
      rw [← hW3] at V3 X3
      rw [← hg3] at X3
      have H3 := hideS (bthen H2.out V3.out)
      have HW3 := hideS hW3
      have Hg3 := hideS hg3
      clear hW3 hg3
      go_wp2_with fail
      rw [← HW3.out]
      try simp only [← Hg3.out]
      refine (DataFrom_c s _ hl).mono ?_
      rintro e v4 ⟨hq2, hw4⟩
      obtain ⟨D2, rfl, d2, p2⟩ := df_yes hc1 hs1 hq2
      have H4 := hideS (bthen H3.out hw4)
      have X4 := hideS (heap_on X3.out hw4)
      have V5 := hideS ((Below.refl _ v4).alloc (Nat.le_refl _) (.cells #[.slice D2.sa D2.ns D2.sc, .slice D2.za D2.nz D2.zc, .slice D2.la D2.nl D2.lc] 26))
      have Y5 : Hid ((v4.alloc (.cells #[.slice D2.sa D2.ns D2.sc, .slice D2.za D2.nz D2.zc, .slice D2.la D2.nl D2.lc] 26)).heap[v4.heap.size]? = some (.cells #[.slice D2.sa D2.ns D2.sc, .slice D2.za D2.nz D2.zc, .slice D2.la D2.nl D2.lc] 26)) := World.alloc_heap_new _ _
      have H5 := hideS (bthen H4.out V5.out)
      have X5 := hideS (heap_on X4.out V5.out)
      have A5 := hideS ((A3.out.on (by rw [← HW3.out]; exact hw4)).on V5.out)
      have B5 := hideS (d2.on V5.out)
      have HSD : Hid (∀ v : World, DAt v D1 → DAt v D2 → Calls Tryz.prog 10 #[.agg #[.slice D1.sa D1.ns D1.sc, .slice D1.za D1.nz D1.zc, .slice D1.la D1.nl D1.lc], .agg #[.slice D2.sa D2.ns D2.sc, .slice D2.za D2.nz D2.zc, .slice D2.la D2.nl D2.lc]] v fun e w' => e = .returned (.bool true) ∧ Below v.heap.size v w') := fun v h1 h2 => SameData_c D1 D2 v h1 h2 F1.out (same_pd p2)
      clear d1 f1 p1 hc1 hs1 d2 p2 A3
      obtain ⟨W5, hW5⟩ : ∃ W5, W5 = v4.alloc (.cells #[.slice D2.sa D2.ns D2.sc, .slice D2.za D2.nz D2.zc, .slice D2.la D2.nl D2.lc] 26) := ⟨_, rfl⟩
      obtain ⟨g5, hg5⟩ : ∃ g5, g5 = v4.heap.size := ⟨_, rfl⟩
      rw [← hW5] at V5 Y5 H5 X5 A5 B5
      rw [← hg5] at Y5
      clear hq2 hw4 H4 X4 H3 X3
      go_upto_region 10 with fail
      try simp only [← hW5, ← hg5]
      clear hW5 hg5
      go_wp2_with (first
        | (go_at_call 9; refine (HBg.out _ H5.out).mono ?_; rintro e v6 ⟨rfl, hb6⟩; have H6 := hideS (bthen H5.out hb6); have X6 := heap_on X5.out hb6; have Y6 := heap_on Y5.out hb6; obtain ⟨x0, x1, x2⟩ := cells3 X6; obtain ⟨y0, y1, y2⟩ := cells3 Y6; have A6 := hideS (A5.out.on hb6); have B6 := hideS (B5.out.on hb6); clear X6 Y6; clear hb6)
        | (go_at_call 10; refine (HSD.out _ A6.out B6.out).mono ?_; rintro e v7 ⟨rfl, hb7⟩))
      go_ret
      exact ⟨rfl, bthen H6.out hb7⟩
    · have hl2 : ¬ (4096 : Int) < s.length := by omega
      have V3 := hideS ((Below.refl _ v2).alloc (Nat.le_refl _) (.cells #[.slice none 0 0, .slice none 0 0, .slice none 0 0] 26))
      have X3 : Hid ((v2.alloc (.cells #[.slice none 0 0, .slice none 0 0, .slice none 0 0] 26)).heap[v2.heap.size]? = some (.cells #[.slice none 0 0, .slice none 0 0, .slice none 0 0] 26)) := World.alloc_heap_new _ _
      obtain ⟨W3, hW3⟩ : ∃ W3, W3 = v2.alloc (.cells #[.slice none 0 0, .slice none 0 0, .slice none 0 0] 26) := ⟨_, rfl⟩
      obtain ⟨g3, hg3⟩ : ∃ g3, g3 = v2.heap.size := ⟨_, rfl⟩
      rw [← hW3] at V3 X3
      rw [← hg3] at X3
      have H3 := hideS (bthen H2.out V3.out)
      have HW3 := hideS hW3
      have Hg3 := hideS hg3
      clear hW3 hg3
      go_wp2_with fail
      rw [← HW3.out]
      try simp only [← Hg3.out]
      refine (DataFrom_c s _ hl).mono ?_
      rintro e v4 ⟨hq2, hw4⟩
      obtain rfl := df_no hn1 p1 hq2
      have H4 := hideS (bthen H3.out hw4)
      have X4 := hideS (heap_on X3.out hw4)
      have V5 := hideS ((Below.refl _ v4).alloc (Nat.le_refl _) (.cells #[.slice none 0 0, .slice none 0 0, .slice none 0 0] 26))
      have Y5 : Hid ((v4.alloc (.cells #[.slice none 0 0, .slice none 0 0, .slice none 0 0] 26)).heap[v4.heap.size]? = some (.cells #[.slice none 0 0, .slice none 0 0, .slice none 0 0] 26)) := World.alloc_heap_new _ _
      have H5 := hideS (bthen H4.out V5.out)
      have X5 := hideS (heap_on X4.out V5.out)
      clear d1 f1 p1 hn1
      obtain ⟨W5, hW5⟩ : ∃ W5, W5 = v4.alloc (.cells #[.slice none 0 0, .slice none 0 0, .slice none 0 0] 26) := ⟨_, rfl⟩
      obtain ⟨g5, hg5⟩ : ∃ g5, g5 = v4.heap.size := ⟨_, rfl⟩
      rw [← hW5] at V5 Y5 H5 X5
      rw [← hg5] at Y5
      clear hq2 hw4 H4 X4 H3 X3
      go_upto_region 10 with fail
      try simp only [← hW5, ← hg5]
      clear hW5 hg5
      go_wp2_with (first
        | (go_at_call 9; refine (HBg.out _ H5.out).mono ?_; rintro e v6 ⟨rfl, hb6⟩; have H6 := hideS (bthen H5.out hb6); have X6 := heap_on X5.out hb6; have Y6 := heap_on Y5.out hb6; obtain ⟨x0, x1, x2⟩ := cells3 X6; obtain ⟨y0, y1, y2⟩ := cells3 Y6; clear X6 Y6; clear hb6)
        | (go_at_call 10; refine (same_none _).mono ?_; rintro e v7 ⟨rfl, hb7⟩))
      go_ret
      exact ⟨rfl, bthen H6.out hb7⟩
  · have hsh : shT D = [] := by
      unfold shT
      rw [if_neg h0]
    rw [hsh] at HS0
    obtain ⟨E0, hE0⟩ : ∃ E0, E0 = chkE D := ⟨_, rfl⟩
    simp only [← hE0] at HCd HS0
    rw [← hE0] at h0
    have e0 : (E0 == 0) = false := beq_eq_false_iff_ne.2 h0
    clear hE hD hF b0 hsh hE0
    go_enter Tryz.func3, Tryz.ntmps3
    go_wp2_with (first
      | (go_at_call 5; refine HS0.out.mono ?_; rintro e u1 ⟨rfl, hb1⟩; have H1 := hideS (bthen B0.out hb1); have D1 := hideS (D0.out.on hb1); have Q1 := hideS (heap_on Q0.out hb1); obtain ⟨p0, p1, p2⟩ := cells3 Q1.out; clear hb1)
      | (go_at_call 6; refine (HCd.out _ D1.out).mono ?_; rintro e u2 ⟨rfl, hb2⟩; have J2 := hideS (bthen H1.out hb2); clear hb2; refine unhid ?_))
    clear p0 p1 p2 D0 D1 Q0 Q1 HS0 B0 H1
    refine hideS ?_
    go_wp2_with fail
    refine (Read_c s _ (HE.out.on J2.out)).mono ?_
    rintro e v2 ⟨hq, hw⟩
    have H2 := hideS (bthen J2.out hw)
    clear hw
    rcases hq with ⟨hl, rfl⟩ | ⟨hl, D1, d1, f1, p1, ⟨hc1, hs1, rfl⟩ | ⟨hn1, rfl⟩⟩
    · have hl2 : (4096 : Int) < s.length := by omega
      have V3 := hideS ((Below.refl _ v2).alloc (Nat.le_refl _) (.cells #[.slice none 0 0, .slice none 0 0, .slice none 0 0] 26))
      have X3 : Hid ((v2.alloc (.cells #[.slice none 0 0, .slice none 0 0, .slice none 0 0] 26)).heap[v2.heap.size]? = some (.cells #[.slice none 0 0, .slice none 0 0, .slice none 0 0] 26)) := World.alloc_heap_new _ _
      have H3 := hideS (bthen H2.out V3.out)
      clear hl
      go_wp2_with (first
        | (go_at_call 9; refine (HBg.out _ H3.out).mono ?_; rintro e v6 ⟨rfl, hb6⟩; have H6 := hideS (bthen H3.out hb6); have X6 := heap_on X3.out hb6; obtain ⟨x0, x1, x2⟩ := cells3 X6; clear X6; clear hb6)
        | (go_at_call 10; refine (same_none _).mono ?_; rintro e v7 ⟨rfl, hb7⟩))
      go_ret
      exact ⟨rfl, bthen H6.out hb7⟩
    · have hl2 : ¬ (4096 : Int) < s.length := by omega
      have V3 := hideS ((Below.refl _ v2).alloc (Nat.le_refl _) (.cells #[.slice D1.sa D1.ns D1.sc, .slice D1.za D1.nz D1.zc, .slice D1.la D1.nl D1.lc] 26))
      have X3 : Hid ((v2.alloc (.cells #[.slice D1.sa D1.ns D1.sc, .slice D1.za D1.nz D1.zc, .slice D1.la D1.nl D1.lc] 26)).heap[v2.heap.size]? = some (.cells #[.slice D1.sa D1.ns D1.sc, .slice D1.za D1.nz D1.zc, .slice D1.la D1.nl D1.lc] 26)) := World.alloc_heap_new _ _
      have A3 := hideS (d1.on V3.out)
      have F1 := hideS f1
      obtain ⟨W3, hW3⟩ : ∃ W3, W3 = v2.alloc (.cells #[.slice D1.sa D1.ns D1.sc, .slice D1.za D1.nz D1.zc, .slice D1.la D1.nl D1.lc] 26) := ⟨_, rfl⟩
      obtain ⟨g3, hg3⟩ : ∃ g3, g3 = v2.heap.size := ⟨_, rfl⟩
      rw [← hW3] at V3 X3
      rw [← hg3] at X3
      have H3 := hideS (bthen H2.out V3.out)
      have HW3 := hideS hW3
      have Hg3 := hideS hg3
      clear hW3 hg3
      go_wp2_with fail
      rw [← HW3.out]
      try simp only [← Hg3.out]
      refine (DataFrom_c s _ hl).mono ?_
      rintro e v4 ⟨hq2, hw4⟩
      obtain ⟨D2, rfl, d2, p2⟩ := df_yes hc1 hs1 hq2
      have H4 := hideS (bthen H3.out hw4)
      have X4 := hideS (heap_on X3.out hw4)
      have V5 := hideS ((Below.refl _ v4).alloc (Nat.le_refl _) (.cells #[.slice D2.sa D2.ns D2.sc, .slice D2.za D2.nz D2.zc, .slice D2.la D2.nl D2.lc] 26))
      have Y5 : Hid ((v4.alloc (.cells #[.slice D2.sa D2.ns D2.sc, .slice D2.za D2.nz D2.zc, .slice D2.la D2.nl D2.lc] 26)).heap[v4.heap.size]? = some (.cells #[.slice D2.sa D2.ns D2.sc, .slice D2.za D2.nz D2.zc, .slice D2.la D2.nl D2.lc] 26)) := World.alloc_heap_new _ _
      have H5 := hideS (bthen H4.out V5.out)
      have X5 := hideS (heap_on X4.out V5.out)
      have A5 := hideS ((A3.out.on (by rw [← HW3.out]; exact hw4)).on V5.out)
      have B5 := hideS (d2.on V5.out)
      have HSD : Hid (∀ v : World, DAt v D1 → DAt v D2 → Calls Tryz.prog 10 #[.agg #[.slice D1.sa D1.ns D1.sc, .slice D1.za D1.nz D1.zc, .slice D1.la D1.nl D1.lc], .agg #[.slice D2.sa D2.ns D2.sc, .slice D2.za D2.nz D2.zc, .slice D2.la D2.nl D2.lc]] v fun e w' => e = .returned (.bool true) ∧ Below v.heap.size v w') := fun v h1 h2 => SameData_c D1 D2 v h1 h2 F1.out (same_pd p2)
      clear d1 f1 p1 hc1 hs1 d2 p2 A3
      obtain ⟨W5, hW5⟩ : ∃ W5, W5 = v4.alloc (.cells #[.slice D2.sa D2.ns D2.sc, .slice D2.za D2.nz D2.zc, .slice D2.la D2.nl D2.lc] 26) := ⟨_, rfl⟩
      obtain ⟨g5, hg5⟩ : ∃ g5, g5 = v4.heap.size := ⟨_, rfl⟩
      rw [← hW5] at V5 Y5 H5 X5 A5 B5
      rw [← hg5] at Y5
      clear hq2 hw4 H4 X4 H3 X3
      go_upto_region 10 with fail
      try simp only [← hW5, ← hg5]
      clear hW5 hg5
      go_wp2_with (first
        | (go_at_call 9; refine (HBg.out _ H5.out).mono ?_; rintro e v6 ⟨rfl, hb6⟩; have H6 := hideS (bthen H5.out hb6); have X6 := heap_on X5.out hb6; have Y6 := heap_on Y5.out hb6; obtain ⟨x0, x1, x2⟩ := cells3 X6; obtain ⟨y0, y1, y2⟩ := cells3 Y6; have A6 := hideS (A5.out.on hb6); have B6 := hideS (B5.out.on hb6); clear X6 Y6; clear hb6)
        | (go_at_call 10; refine (HSD.out _ A6.out B6.out).mono ?_; rintro e v7 ⟨rfl, hb7⟩))
      go_ret
      exact ⟨rfl, bthen H6.out hb7⟩
    · have hl2 : ¬ (4096 : Int) < s.length := by omega
      have V3 := hideS ((Below.refl _ v2).alloc (Nat.le_refl _) (.cells #[.slice none 0 0, .slice none 0 0, .slice none 0 0] 26))
      have X3 : Hid ((v2.alloc (.cells #[.slice none 0 0, .slice none 0 0, .slice none 0 0] 26)).heap[v2.heap.size]? = some (.cells #[.slice none 0 0, .slice none 0 0, .slice none 0 0] 26)) := World.alloc_heap_new _ _
      obtain ⟨W3, hW3⟩ : ∃ W3, W3 = v2.alloc (.cells #[.slice none 0 0, .slice none 0 0, .slice none 0 0] 26) := ⟨_, rfl⟩
      obtain ⟨g3, hg3⟩ : ∃ g3, g3 = v2.heap.size := ⟨_, rfl⟩
      rw [← hW3] at V3 X3
      rw [← hg3] at X3
      have H3 := hideS (bthen H2.out V3.out)
      have HW3 := hideS hW3
      have Hg3 := hideS hg3
      clear hW3 hg3
      go_wp2_with fail
      rw [← HW3.out]
      try simp only [← Hg3.out]
      refine (DataFrom_c s _ hl).mono ?_
      rintro e v4 ⟨hq2, hw4⟩
      obtain rfl := df_no hn1 p1 hq2
      have H4 := hideS (bthen H3.out hw4)
      have X4 := hideS (heap_on X3.out hw4)
      have V5 := hideS ((Below.refl _ v4).alloc (Nat.le_refl _) (.cells #[.slice none 0 0, .slice none 0 0, .slice none 0 0] 26))
      have Y5 : Hid ((v4.alloc (.cells #[.slice none 0 0, .slice none 0 0, .slice none 0 0] 26)).heap[v4.heap.size]? = some (.cells #[.slice none 0 0, .slice none 0 0, .slice none 0 0] 26)) := World.alloc_heap_new _ _
      have H5 := hideS (bthen H4.out V5.out)
      have X5 := hideS (heap_on X4.out V5.out)
      clear d1 f1 p1 hn1
      obtain ⟨W5, hW5⟩ : ∃ W5, W5 = v4.alloc (.cells #[.slice none 0 0, .slice none 0 0, .slice none 0 0] 26) := ⟨_, rfl⟩
      obtain ⟨g5, hg5⟩ : ∃ g5, g5 = v4.heap.size := ⟨_, rfl⟩
      rw [← hW5] at V5 Y5 H5 X5
      rw [← hg5] at Y5
      clear hq2 hw4 H4 X4 H3 X3
      go_upto_region 10 with fail
      try simp only [← hW5, ← hg5]
      clear hW5 hg5
      go_wp2_with (first
        | (go_at_call 9; refine (HBg.out _ H5.out).mono ?_; rintro e v6 ⟨rfl, hb6⟩; have H6 := hideS (bthen H5.out hb6); have X6 := heap_on X5.out hb6; have Y6 := heap_on Y5.out hb6; obtain ⟨x0, x1, x2⟩ := cells3 X6; obtain ⟨y0, y1, y2⟩ := cells3 Y6; clear X6 Y6; clear hb6)
        | (go_at_call 10; refine (same_none _).mono ?_; rintro e v7 ⟨rfl, hb7⟩))
      go_ret
      exact ⟨rfl, bthen H6.out hb7⟩
theorem SourceShows_w (D : Dt) (s : ByteArray) (w : World) (hE : SrE w) (hD : DAt w D) (hF : D.fits) :
    Calls Tryz.prog 3 #[D.v, .string s] w fun e w' => e = .returned (.bool true) ∧ Below w.heap.size w w' := by
  obtain ⟨l, rfl⟩ : ∃ l : By, s = ⟨l.toArray⟩ := ⟨s.data.toList, by simp⟩
  exact SourceShows_x D l w hE hD hF
end Go.Proofs.YtbpdbggojgijiaaGreatDoor.Src

/- The walk of SourceBack. -/
import Derived.Test.YtbpdbggojgijiaaGreatDoorSourceZ
namespace Go.Proofs.YtbpdbggojgijiaaGreatDoor.Src
open Go Go.RowKit Go.Maps
set_option linter.unusedVariables false
set_option linter.unusedSimpArgs false

set_option maxRecDepth 100000 in
set_option maxHeartbeats 8000000 in
theorem SourceBack_x (D : Dt) (s : By) (w : World) (hE : SrE w) (hD : DAt w D) (hF : D.fits) :
    Calls Tryz.prog 4 #[D.v, .string ⟨s.toArray⟩] w fun e w' => e = .returned (.bool true) ∧ Below w.heap.size w w' := by
  have b0 := (Below.refl _ w).alloc (Nat.le_refl _) (.cells #[.slice D.sa D.ns D.sc, .slice D.za D.nz D.zc, .slice D.la D.nl D.lc] 26)
  have HS0 := hideS (Show_c D _ (hE.on b0) (hD.on b0) hF)
  have HE := hideS hE
  have HF := hideS hF
  have B0 := hideS b0
  have D0 := hideS (hD.on b0)
  have Q0 : Hid ((w.alloc (.cells #[.slice D.sa D.ns D.sc, .slice D.za D.nz D.zc, .slice D.la D.nl D.lc] 26)).heap[w.heap.size]? = some (.cells #[.slice D.sa D.ns D.sc, .slice D.za D.nz D.zc, .slice D.la D.nl D.lc] 26)) := World.alloc_heap_new _ _
  obtain ⟨E0, hE0⟩ : ∃ E0, E0 = chkE D := ⟨_, rfl⟩
  obtain ⟨T, hT⟩ : ∃ T, T = shT D := ⟨_, rfl⟩
  rw [← hE0, ← hT] at HS0
  have HB : Hid (∀ e w', E0 = 0 → T.length ≤ 4096 → rdQ T e w' → ∃ E : Dt, e = .returned (.tuple #[E.v, .int .i64 0]) ∧ DAt w' E ∧ E.fits ∧ pdOf E = pdOf D) := fun e w' h0 hl h => by
    have hc : chkE D = 0 := hE0.symm.trans h0
    have e : T = showD D := by
      rw [hT]
      unfold shT
      rw [if_pos hc]
    rw [e] at hl h
    exact read_back hc hl h
  clear hE hD hF b0 hE0 hT
  go_enter Tryz.func4, Tryz.ntmps4
  go_wp2_with (go_at_call 5; refine HS0.out.mono ?_; rintro e u1 ⟨rfl, hb1⟩; refine unhid ?_)
  have H1 := hideS (bthen B0.out hb1)
  have D1 := hideS (D0.out.on hb1)
  have Q1 := hideS (heap_on Q0.out hb1)
  clear hb1 D0 Q0 B0 HS0
  refine hideS ?_
  by_cases h0 : E0 = 0
  · have HB1 : Hid (∀ e w', T.length ≤ 4096 → rdQ T e w' → ∃ E : Dt, e = .returned (.tuple #[E.v, .int .i64 0]) ∧ DAt w' E ∧ E.fits ∧ pdOf E = pdOf D) := fun e w' hl h => HB.out e w' h0 hl h
    clear HB
    subst h0
    by_cases hl : T.length ≤ 4096
    · have hl2 : (T.length : Int) ≤ 4096 := by omega
      go_wp2_with (go_at_call 8; refine (Read_c T _ (HE.out.on H1.out)).mono ?_; rintro e v2 ⟨hq, hw⟩; obtain ⟨E, rfl, d2, f2, p2⟩ := HB1.out _ _ hl hq; refine unhid ?_)
      refine hideS ?_
      have H2 := hideS (bthen H1.out hw)
      have D2 := hideS (D1.out.on hw)
      have Q2 := hideS (heap_on Q1.out hw)
      have V2 := hideS ((Below.refl _ v2).alloc (Nat.le_refl _) (.cells #[.slice E.sa E.ns E.sc, .slice E.za E.nz E.zc, .slice E.la E.nl E.lc] 26))
      have H3 := hideS (bthen H2.out V2.out)
      have D3 := hideS (D2.out.on V2.out)
      have Q3 := hideS (heap_on Q2.out V2.out)
      have R3 : Hid ((v2.alloc (.cells #[.slice E.sa E.ns E.sc, .slice E.za E.nz E.zc, .slice E.la E.nl E.lc] 26)).heap[v2.heap.size]? = some (.cells #[.slice E.sa E.ns E.sc, .slice E.za E.nz E.zc, .slice E.la E.nl E.lc] 26)) := World.alloc_heap_new _ _
      have HS3 : Hid (Calls Tryz.prog 10 #[.agg #[.slice E.sa E.ns E.sc, .slice E.za E.nz E.zc, .slice E.la E.nl E.lc], .agg #[.slice D.sa D.ns D.sc, .slice D.za D.nz D.zc, .slice D.la D.nl D.lc]] (v2.alloc (.cells #[.slice E.sa E.ns E.sc, .slice E.za E.nz E.zc, .slice E.la E.nl E.lc] 26)) fun e w' => e = .returned (.bool true) ∧ Below (v2.alloc (.cells #[.slice E.sa E.ns E.sc, .slice E.za E.nz E.zc, .slice E.la E.nl E.lc] 26)).heap.size (v2.alloc (.cells #[.slice E.sa E.ns E.sc, .slice E.za E.nz E.zc, .slice E.la E.nl E.lc] 26)) w') := SameData_c E D _ (d2.on V2.out) D3.out f2 (same_pd p2.symm)
      obtain ⟨W3, hW3⟩ : ∃ W3, W3 = v2.alloc (.cells #[.slice E.sa E.ns E.sc, .slice E.za E.nz E.zc, .slice E.la E.nl E.lc] 26) := ⟨_, rfl⟩
      obtain ⟨g, hg⟩ : ∃ g, g = v2.heap.size := ⟨_, rfl⟩
      rw [← hW3] at H3 D3 Q3 R3 HS3
      rw [← hg] at R3
      clear hq hw d2 f2 p2 H2 D2 Q2 V2 D1 Q1 H1
      go_upto_region 4 with fail
      simp only [← hW3, ← hg]
      clear hW3 hg
      obtain ⟨q0, q1, q2⟩ := cells3 Q3.out
      obtain ⟨y0, y1, y2⟩ := cells3 R3.out
      go_wp2_with (go_at_call 10; refine HS3.out.mono ?_; rintro e v4 ⟨rfl, hb4⟩; refine unhid ?_)
      have H4 := hideS (bthen H3.out hb4)
      clear hb4 q0 q1 q2 y0 y1 y2
      refine hideS ?_
      go_wp2_with fail
      refine (Read_c s _ (HE.out.on H4.out)).mono ?_
      rintro e u2 ⟨hq, hw⟩
      have H8 := hideS (bthen H4.out hw)
      have V8 := hideS ((Below.refl _ u2).alloc (Nat.le_refl _) (.cells #[.slice none 0 0, .slice none 0 0, .slice none 0 0] 26))
      have H9 := hideS (bthen H8.out V8.out)
      have HBg : Hid (∀ v : World, Below w.heap.size w v → Calls Tryz.prog 9 #[] v fun e w' => e = .returned (.bool true) ∧ Below v.heap.size v w') := fun v hv => sourceBegun_c v (HE.out.on hv)
      clear hw
      rcases hq with ⟨hl, rfl⟩ | ⟨hl, Y, d2, f2, p2, ⟨hc, hs, rfl⟩ | ⟨hn, rfl⟩⟩
      · clear hl
        go_wp2_with (go_at_call 9; refine (HBg.out _ H9.out).mono ?_; rintro e w9 ⟨rfl, hb9⟩)
        go_ret
        exact ⟨rfl, bthen H9.out hb9⟩
      · have VY := hideS ((Below.refl _ u2).alloc (Nat.le_refl _) (.cells #[.slice Y.sa Y.ns Y.sc, .slice Y.za Y.nz Y.zc, .slice Y.la Y.nl Y.lc] 26))
        have HY := hideS (bthen H8.out VY.out)
        have HS : Hid (Calls Tryz.prog 5 #[.agg #[.slice Y.sa Y.ns Y.sc, .slice Y.za Y.nz Y.zc, .slice Y.la Y.nl Y.lc]] (u2.alloc (.cells #[.slice Y.sa Y.ns Y.sc, .slice Y.za Y.nz Y.zc, .slice Y.la Y.nl Y.lc] 26)) fun e w' => e = .returned (.tuple #[.string ⟨s.toArray⟩, .int .i64 0]) ∧ Below (u2.alloc (.cells #[.slice Y.sa Y.ns Y.sc, .slice Y.za Y.nz Y.zc, .slice Y.la Y.nl Y.lc] 26)).heap.size (u2.alloc (.cells #[.slice Y.sa Y.ns Y.sc, .slice Y.za Y.nz Y.zc, .slice Y.la Y.nl Y.lc] 26)) w') := by
          have h := Show_c Y _ (HE.out.on HY.out) (d2.on VY.out) f2
          have e : shT Y = s := by
            unfold shT
            rw [if_pos hc, hs]
          rw [e, hc] at h
          exact h
        clear hl d2 f2 p2 hc hs VY V8 H9
        go_wp2_with (first
          | (go_at_call 5; refine HS.out.mono ?_; rintro e w8 ⟨rfl, hb8⟩; have H10 := hideS (bthen HY.out hb8); clear hb8)
          | (go_at_call 9; refine (HBg.out _ H10.out).mono ?_; rintro e w9 ⟨rfl, hb9⟩))
        go_ret
        exact ⟨rfl, bthen H10.out hb9⟩
      · clear hl d2 f2 p2 hn
        go_wp2_with (go_at_call 9; refine (HBg.out _ H9.out).mono ?_; rintro e w9 ⟨rfl, hb9⟩)
        go_ret
        exact ⟨rfl, bthen H9.out hb9⟩
    · have hl2 : ¬ ((T.length : Int) ≤ 4096) := by omega
      go_wp2_with fail
      refine (Read_c s _ (HE.out.on H1.out)).mono ?_
      rintro e u2 ⟨hq, hw⟩
      have H8 := hideS (bthen H1.out hw)
      have V8 := hideS ((Below.refl _ u2).alloc (Nat.le_refl _) (.cells #[.slice none 0 0, .slice none 0 0, .slice none 0 0] 26))
      have H9 := hideS (bthen H8.out V8.out)
      have HBg : Hid (∀ v : World, Below w.heap.size w v → Calls Tryz.prog 9 #[] v fun e w' => e = .returned (.bool true) ∧ Below v.heap.size v w') := fun v hv => sourceBegun_c v (HE.out.on hv)
      clear hw
      rcases hq with ⟨hl, rfl⟩ | ⟨hl, Y, d2, f2, p2, ⟨hc, hs, rfl⟩ | ⟨hn, rfl⟩⟩
      · clear hl
        go_wp2_with (go_at_call 9; refine (HBg.out _ H9.out).mono ?_; rintro e w9 ⟨rfl, hb9⟩)
        go_ret
        exact ⟨rfl, bthen H9.out hb9⟩
      · have VY := hideS ((Below.refl _ u2).alloc (Nat.le_refl _) (.cells #[.slice Y.sa Y.ns Y.sc, .slice Y.za Y.nz Y.zc, .slice Y.la Y.nl Y.lc] 26))
        have HY := hideS (bthen H8.out VY.out)
        have HS : Hid (Calls Tryz.prog 5 #[.agg #[.slice Y.sa Y.ns Y.sc, .slice Y.za Y.nz Y.zc, .slice Y.la Y.nl Y.lc]] (u2.alloc (.cells #[.slice Y.sa Y.ns Y.sc, .slice Y.za Y.nz Y.zc, .slice Y.la Y.nl Y.lc] 26)) fun e w' => e = .returned (.tuple #[.string ⟨s.toArray⟩, .int .i64 0]) ∧ Below (u2.alloc (.cells #[.slice Y.sa Y.ns Y.sc, .slice Y.za Y.nz Y.zc, .slice Y.la Y.nl Y.lc] 26)).heap.size (u2.alloc (.cells #[.slice Y.sa Y.ns Y.sc, .slice Y.za Y.nz Y.zc, .slice Y.la Y.nl Y.lc] 26)) w') := by
          have h := Show_c Y _ (HE.out.on HY.out) (d2.on VY.out) f2
          have e : shT Y = s := by
            unfold shT
            rw [if_pos hc, hs]
          rw [e, hc] at h
          exact h
        clear hl d2 f2 p2 hc hs VY V8 H9
        go_wp2_with (first
          | (go_at_call 5; refine HS.out.mono ?_; rintro e w8 ⟨rfl, hb8⟩; have H10 := hideS (bthen HY.out hb8); clear hb8)
          | (go_at_call 9; refine (HBg.out _ H10.out).mono ?_; rintro e w9 ⟨rfl, hb9⟩))
        go_ret
        exact ⟨rfl, bthen H10.out hb9⟩
      · clear hl d2 f2 p2 hn
        go_wp2_with (go_at_call 9; refine (HBg.out _ H9.out).mono ?_; rintro e w9 ⟨rfl, hb9⟩)
        go_ret
        exact ⟨rfl, bthen H9.out hb9⟩
  · have e0 : (E0 == 0) = false := beq_eq_false_iff_ne.2 h0
    go_wp2_with fail
    refine (Read_c s _ (HE.out.on H1.out)).mono ?_
    rintro e u2 ⟨hq, hw⟩
    have H8 := hideS (bthen H1.out hw)
    have V8 := hideS ((Below.refl _ u2).alloc (Nat.le_refl _) (.cells #[.slice none 0 0, .slice none 0 0, .slice none 0 0] 26))
    have H9 := hideS (bthen H8.out V8.out)
    have HBg : Hid (∀ v : World, Below w.heap.size w v → Calls Tryz.prog 9 #[] v fun e w' => e = .returned (.bool true) ∧ Below v.heap.size v w') := fun v hv => sourceBegun_c v (HE.out.on hv)
    clear hw
    rcases hq with ⟨hl, rfl⟩ | ⟨hl, Y, d2, f2, p2, ⟨hc, hs, rfl⟩ | ⟨hn, rfl⟩⟩
    · clear hl
      go_wp2_with (go_at_call 9; refine (HBg.out _ H9.out).mono ?_; rintro e w9 ⟨rfl, hb9⟩)
      go_ret
      exact ⟨rfl, bthen H9.out hb9⟩
    · have VY := hideS ((Below.refl _ u2).alloc (Nat.le_refl _) (.cells #[.slice Y.sa Y.ns Y.sc, .slice Y.za Y.nz Y.zc, .slice Y.la Y.nl Y.lc] 26))
      have HY := hideS (bthen H8.out VY.out)
      have HS : Hid (Calls Tryz.prog 5 #[.agg #[.slice Y.sa Y.ns Y.sc, .slice Y.za Y.nz Y.zc, .slice Y.la Y.nl Y.lc]] (u2.alloc (.cells #[.slice Y.sa Y.ns Y.sc, .slice Y.za Y.nz Y.zc, .slice Y.la Y.nl Y.lc] 26)) fun e w' => e = .returned (.tuple #[.string ⟨s.toArray⟩, .int .i64 0]) ∧ Below (u2.alloc (.cells #[.slice Y.sa Y.ns Y.sc, .slice Y.za Y.nz Y.zc, .slice Y.la Y.nl Y.lc] 26)).heap.size (u2.alloc (.cells #[.slice Y.sa Y.ns Y.sc, .slice Y.za Y.nz Y.zc, .slice Y.la Y.nl Y.lc] 26)) w') := by
        have h := Show_c Y _ (HE.out.on HY.out) (d2.on VY.out) f2
        have e : shT Y = s := by
          unfold shT
          rw [if_pos hc, hs]
        rw [e, hc] at h
        exact h
      clear hl d2 f2 p2 hc hs VY V8 H9
      go_wp2_with (first
        | (go_at_call 5; refine HS.out.mono ?_; rintro e w8 ⟨rfl, hb8⟩; have H10 := hideS (bthen HY.out hb8); clear hb8)
        | (go_at_call 9; refine (HBg.out _ H10.out).mono ?_; rintro e w9 ⟨rfl, hb9⟩))
      go_ret
      exact ⟨rfl, bthen H10.out hb9⟩
    · clear hl d2 f2 p2 hn
      go_wp2_with (go_at_call 9; refine (HBg.out _ H9.out).mono ?_; rintro e w9 ⟨rfl, hb9⟩)
      go_ret
      exact ⟨rfl, bthen H9.out hb9⟩
theorem SourceBack_w (D : Dt) (s : ByteArray) (w : World) (hE : SrE w) (hD : DAt w D) (hF : D.fits) :
    Calls Tryz.prog 4 #[D.v, .string s] w fun e w' => e = .returned (.bool true) ∧ Below w.heap.size w w' := by
  obtain ⟨l, rfl⟩ : ∃ l : By, s = ⟨l.toArray⟩ := ⟨s.data.toList, by simp⟩
  exact SourceBack_x D l w hE hD hF
end Go.Proofs.YtbpdbggojgijiaaGreatDoor.Src

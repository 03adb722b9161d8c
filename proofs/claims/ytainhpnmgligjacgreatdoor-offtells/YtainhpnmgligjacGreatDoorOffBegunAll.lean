/- What off.At answers of the statements' own data. -/
import Derived.Test.YtainhpnmgligjacGreatDoorOffE
import Derived.Test.YtainhpnmgligjacGreatDoorDataBegunAll
namespace Go.Proofs.YtainhpnmgligjacGreatDoor
open Go Go.RowKit Go.Maps
set_option linter.unusedVariables false

set_option maxRecDepth 100000 in
theorem ob1 (r b : Nat) : atsE (eu r b (-1) old) ⟨#[84, 111, 119, 110]⟩ 1585443600 = 0 := by kernel_rfl
set_option maxRecDepth 100000 in
theorem ob2 (r b : Nat) : atsR (eu r b (-1) old) ⟨#[84, 111, 119, 110]⟩ 1585443600 = ⟨7200, 3600, ⟨#[67, 69, 68, 84]⟩⟩ := by kernel_rfl
set_option maxRecDepth 100000 in
theorem ob3 (r b : Nat) : atsE (eu r b (-1) old) ⟨#[84]⟩ 1585443599 = 0 := by kernel_rfl
set_option maxRecDepth 100000 in
theorem ob4 (r b : Nat) : atsR (eu r b (-1) old) ⟨#[84]⟩ 1585443599 = ⟨3600, 0, ⟨#[67, 69, 83, 84]⟩⟩ := by kernel_rfl
set_option maxRecDepth 100000 in
theorem ob5 (r b : Nat) : atsE (eu r b (-1) old) old 7 = 0 := by kernel_rfl
set_option maxRecDepth 100000 in
theorem ob6 (r b : Nat) : atsR (eu r b (-1) old) old 7 = ⟨1800, 0, ⟨#[76, 77, 84]⟩⟩ := by kernel_rfl
set_option maxRecDepth 100000 in
theorem ob7 (r b : Nat) : atsE (eu r b (-1) old) ⟨#[65, 47, 87, 101, 115, 116]⟩ 7 = 0 := by kernel_rfl
set_option maxRecDepth 100000 in
theorem ob8 (r b : Nat) : atsR (eu r b (-1) old) ⟨#[65, 47, 87, 101, 115, 116]⟩ 7 = ⟨-14400, 3600, ⟨#[88, 84]⟩⟩ := by kernel_rfl
end Go.Proofs.YtainhpnmgligjacGreatDoor

/- What the statements ask of what holds in any case: offBegun answers true. -/
namespace Go.Proofs.YtainhpnmgligjacGreatDoor
open Go Go.RowKit Go.Maps
set_option linter.unusedVariables false

theorem at_eu (r b : Nat) (s : ByteArray) (t : Int) (o : Of) (w : World) (hE : Env w (eu r b (-1) old)) (hs : s.size ≤ 10) (h1 : atsR (eu r b (-1) old) s t = o) (h2 : atsE (eu r b (-1) old) s t = 0) :
    Calls Tryz.prog 6 #[.agg #[.slice (some ⟨b, 0, none⟩) 1 1, .slice (some ⟨b + 3, 0, none⟩) 2 2, .slice (some ⟨b + 4, 0, none⟩) 2 2], .string s, .int .i64 t] w fun e' w' => e' = .returned (.tuple #[.agg #[.int .i64 o.tot, .int .i64 o.sv, .string o.ab], .int .i64 0]) ∧ Below w.heap.size w w' := by
  have := OAt_c (eu r b (-1) old) s t w hE (eu_fits r b (-1) old old10) (eu_small s hs)
  rw [h1, h2] at this
  exact this
set_option maxRecDepth 100000 in
set_option maxHeartbeats 4000000 in
theorem offBegun_c (w : World) (hL : Laid w) (hM : Mx w) : Calls Tryz.prog 8 #[] w fun e w' => e = .returned (.bool true) ∧ Below w.heap.size w w' := by
  have HL := hideH hL
  have HM := hideH hM
  clear hL hM
  go_enter Tryz.func8, Tryz.ntmps8
  have H0 := hideH (Below.refl w.heap.size w)
  go_wp2_with fail
  refine (europe_x _).mono ?_
  rintro e a1 ⟨r1, b1, rfl, d1, -, -, hw, -, -⟩
  have H0 := hideH (bthen H0.out hw)
  have D1 := hideH d1
  clear hw d1
  go_wp2_with fail
  refine (at_eu r1 b1 ⟨#[84, 111, 119, 110]⟩ 1585443600 ⟨7200, 3600, ⟨#[67, 69, 68, 84]⟩⟩ _ ⟨HL.out.on H0.out, HM.out.on H0.out, D1.out⟩ (by decide) (ob2 r1 b1) (ob1 r1 b1)).mono ?_
  rintro e u1 ⟨rfl, hw⟩
  have H0 := hideH (bthen H0.out hw)
  clear hw D1
  go_wp2_with fail
  obtain ⟨v1, hv1⟩ : ∃ v, v = u1.alloc (.cells #[.int .i64 7200, .int .i64 3600, .string ⟨#[67, 69, 68, 84]⟩] 28) := ⟨_, rfl⟩
  simp only [← hv1]
  have V1 := hideH ((Below.refl _ u1).alloc (Nat.le_refl _) (.cells #[.int .i64 7200, .int .i64 3600, .string ⟨#[67, 69, 68, 84]⟩] 28))
  rw [← hv1] at V1
  have X1 : Hid (v1.heap[u1.heap.size]? = some (.cells #[.int .i64 7200, .int .i64 3600, .string ⟨#[67, 69, 68, 84]⟩] 28)) := by show _ = _; rw [hv1]; exact World.alloc_heap_new _ _
  have H0 := hideH (bthen H0.out V1.out)
  clear hv1 V1
  refine (europe_x _).mono ?_
  rintro e a2 ⟨r2, b2, rfl, d2, -, -, hw, -, -⟩
  have H0 := hideH (bthen H0.out hw)
  have X1 := hideH (heap_on X1.out hw)
  have D2 := hideH d2
  clear hw d2
  go_wp2_with fail
  refine (at_eu r2 b2 ⟨#[84]⟩ 1585443599 ⟨3600, 0, ⟨#[67, 69, 83, 84]⟩⟩ _ ⟨HL.out.on H0.out, HM.out.on H0.out, D2.out⟩ (by decide) (ob4 r2 b2) (ob3 r2 b2)).mono ?_
  rintro e u2 ⟨rfl, hw⟩
  have H0 := hideH (bthen H0.out hw)
  have X1 := hideH (heap_on X1.out hw)
  clear hw D2
  go_wp2_with fail
  obtain ⟨v2, hv2⟩ : ∃ v, v = u2.alloc (.cells #[.int .i64 3600, .int .i64 0, .string ⟨#[67, 69, 83, 84]⟩] 28) := ⟨_, rfl⟩
  simp only [← hv2]
  have V2 := hideH ((Below.refl _ u2).alloc (Nat.le_refl _) (.cells #[.int .i64 3600, .int .i64 0, .string ⟨#[67, 69, 83, 84]⟩] 28))
  rw [← hv2] at V2
  have X2 : Hid (v2.heap[u2.heap.size]? = some (.cells #[.int .i64 3600, .int .i64 0, .string ⟨#[67, 69, 83, 84]⟩] 28)) := by show _ = _; rw [hv2]; exact World.alloc_heap_new _ _
  have X1 := hideH (heap_on X1.out V2.out)
  have H0 := hideH (bthen H0.out V2.out)
  clear hv2 V2
  refine (europe_x _).mono ?_
  rintro e a3 ⟨r3, b3, rfl, d3, -, -, hw, -, -⟩
  have H0 := hideH (bthen H0.out hw)
  have X1 := hideH (heap_on X1.out hw)
  have X2 := hideH (heap_on X2.out hw)
  have D3 := hideH d3
  clear hw d3
  go_wp2_with fail
  refine (at_eu r3 b3 old 7 ⟨1800, 0, ⟨#[76, 77, 84]⟩⟩ _ ⟨HL.out.on H0.out, HM.out.on H0.out, D3.out⟩ old10 (ob6 r3 b3) (ob5 r3 b3)).mono ?_
  rintro e u3 ⟨rfl, hw⟩
  have H0 := hideH (bthen H0.out hw)
  have X1 := hideH (heap_on X1.out hw)
  have X2 := hideH (heap_on X2.out hw)
  clear hw D3
  go_wp2_with fail
  obtain ⟨v3, hv3⟩ : ∃ v, v = u3.alloc (.cells #[.int .i64 1800, .int .i64 0, .string ⟨#[76, 77, 84]⟩] 28) := ⟨_, rfl⟩
  simp only [← hv3]
  have V3 := hideH ((Below.refl _ u3).alloc (Nat.le_refl _) (.cells #[.int .i64 1800, .int .i64 0, .string ⟨#[76, 77, 84]⟩] 28))
  rw [← hv3] at V3
  have X3 : Hid (v3.heap[u3.heap.size]? = some (.cells #[.int .i64 1800, .int .i64 0, .string ⟨#[76, 77, 84]⟩] 28)) := by show _ = _; rw [hv3]; exact World.alloc_heap_new _ _
  have X1 := hideH (heap_on X1.out V3.out)
  have X2 := hideH (heap_on X2.out V3.out)
  have H0 := hideH (bthen H0.out V3.out)
  clear hv3 V3
  refine (europe_x _).mono ?_
  rintro e a4 ⟨r4, b4, rfl, d4, -, -, hw, -, -⟩
  have H0 := hideH (bthen H0.out hw)
  have X1 := hideH (heap_on X1.out hw)
  have X2 := hideH (heap_on X2.out hw)
  have X3 := hideH (heap_on X3.out hw)
  have D4 := hideH d4
  clear hw d4
  go_wp2_with fail
  refine (at_eu r4 b4 ⟨#[65, 47, 87, 101, 115, 116]⟩ 7 ⟨(-14400), 3600, ⟨#[88, 84]⟩⟩ _ ⟨HL.out.on H0.out, HM.out.on H0.out, D4.out⟩ (by decide) (ob8 r4 b4) (ob7 r4 b4)).mono ?_
  rintro e u4 ⟨rfl, hw⟩
  have H0 := hideH (bthen H0.out hw)
  have X1 := hideH (heap_on X1.out hw)
  have X2 := hideH (heap_on X2.out hw)
  have X3 := hideH (heap_on X3.out hw)
  clear hw D4
  have V4 := hideH ((Below.refl _ u4).alloc (Nat.le_refl _) (.cells #[.int .i64 (-14400), .int .i64 3600, .string ⟨#[88, 84]⟩] 28))
  obtain ⟨p0, p1, p2⟩ := cells3 (heap_on X1.out V4.out)
  obtain ⟨q0, q1, q2⟩ := cells3 (heap_on X2.out V4.out)
  obtain ⟨s0, s1, s2⟩ := cells3 (heap_on X3.out V4.out)
  have hl1 := (Array.getElem?_eq_some_iff.1 X1.out).1
  have hl2 := (Array.getElem?_eq_some_iff.1 X2.out).1
  have hl3 := (Array.getElem?_eq_some_iff.1 X3.out).1
  obtain ⟨p0, p1, p2⟩ := cells3 X1.out
  obtain ⟨q0, q1, q2⟩ := cells3 X2.out
  obtain ⟨s0, s1, s2⟩ := cells3 X3.out
  go_wp2_with fail
  go_ret
  exact ⟨rfl, bthen H0.out V4.out⟩
end Go.Proofs.YtainhpnmgligjacGreatDoor

/- What the statements ask of data in any case: dataBegun answers true. -/
import Derived.Test.YtcdokhjmpkcpnacDoorDataBegun
namespace Go.Proofs.YtcdokhjmpkcpnacDoor
open Go Go.RowKit Go.Maps
set_option linter.unusedVariables false

/-- europe, its slices written out -/
theorem europe_x (w : World) : Calls Tryd.prog 15 #[] w fun e w' => ∃ r b, e = .returned (.agg #[.slice (some ⟨b, 0, none⟩) 1 1, .slice (some ⟨b + 3, 0, none⟩) 2 2, .slice (some ⟨b + 4, 0, none⟩) 2 2]) ∧ DAt w' (eu r b (-1) old) ∧ r < b ∧ w.heap.size ≤ b ∧ Below w.heap.size w w'
    ∧ w'.heap[b + 2]? = some (.cells #[.int .i64 (-18000), .int .i64 (-1), .int .i64 3600, .string ⟨#[88, 84]⟩, .int .i64 1893456000] 43)
    ∧ w'.heap[b + 4]? = some (.cells #[.string ⟨#[84, 111, 119, 110]⟩, .string old, .string ⟨#[84]⟩, .string ⟨#[84, 111, 119, 110]⟩] 28) := europe_c w
theorem eu_small (s : ByteArray) (h : s.size ≤ 10) : s.size ≤ maxLen := by unfold maxLen; omega
theorem old10 : old.size ≤ 10 := by decide
theorem zone_eu (r b : Nat) (s : ByteArray) (k e : Int) (w : World) (hE : Env w (eu r b (-1) old)) (hs : s.size ≤ 10) (hk : zonR (eu r b (-1) old) s = k) (he : zonE (eu r b (-1) old) s = e) :
    Calls Tryd.prog 8 #[.agg #[.slice (some ⟨b, 0, none⟩) 1 1, .slice (some ⟨b + 3, 0, none⟩) 2 2, .slice (some ⟨b + 4, 0, none⟩) 2 2], .string s] w fun e' w' => e' = .returned (.tuple #[.int .i64 k, .int .i64 e]) ∧ Below w.heap.size w w' := by
  subst hk he
  exact DZone_c (eu r b (-1) old) s w hE (eu_fits r b (-1) old old10) (eu_small s hs)
theorem check_eu (r b : Nat) (x : Int) (t : ByteArray) (e : Int) (w : World) (hE : Env w (eu r b x t)) (ht : t.size ≤ 10) (he : chkE (eu r b x t) = e) :
    Calls Tryd.prog 6 #[.agg #[.slice (some ⟨b, 0, none⟩) 1 1, .slice (some ⟨b + 3, 0, none⟩) 2 2, .slice (some ⟨b + 4, 0, none⟩) 2 2]] w fun e' w' => e' = .returned (.int .i64 e) ∧ Below w.heap.size w w' := by
  subst he
  exact DCheck_c (eu r b x t) w hE (eu_fits r b x t ht)
theorem name_eu (s : ByteArray) (v : Bool) (w : World) (hs : s.size ≤ 10) (hv : nameB s = v) : Calls Tryd.prog 16 #[.string s] w fun e w' => e = .returned (.bool v) ∧ w' = w := by
  subst hv
  exact Name_c s w (eu_small s hs)
theorem X0 (r b : Nat) : zonR (eu r b (-1) old) ⟨#[88]⟩ = 0 := by
  unfold zonR
  have h : (leadK (eu r b (-1) old) ((eu r b (-1) old).nl + 1) ⟨#[88]⟩).2 = 4 := by have := eu_X r b; unfold zonE at this; rwa [if_pos (eu_ok r b)] at this
  rw [if_pos (eu_ok r b), h]; rfl

set_option maxRecDepth 100000 in
set_option maxHeartbeats 4000000 in
theorem dataBegun_c (w : World) (hL : Laid w) (hM : Mx w) : Calls Tryd.prog 7 #[] w fun e w' => e = .returned (.bool true) ∧ Below w.heap.size w w' := by
  have HL := hideH hL
  have HM := hideH hM
  clear hL hM
  go_enter Tryd.func7, Tryd.ntmps7
  go_wp2_with fail
  refine (europe_x _).mono ?_
  rintro e w1 ⟨r1, b1, rfl, d1, -, -, hw1, -, -⟩
  have H1 := hideH hw1
  have D1 := hideH d1
  clear hw1 d1
  go_wp2_with fail
  refine (zone_eu r1 b1 ⟨#[84]⟩ 0 0 _ ⟨HL.out.on H1.out, HM.out.on H1.out, D1.out⟩ (by decide) (eu_T r1 b1).1 (eu_T r1 b1).2).mono ?_
  rintro e w2 ⟨rfl, hw2⟩
  have H2 := hideH (bthen H1.out hw2)
  clear hw2 H1 D1
  go_wp2_with fail
  refine (europe_x _).mono ?_
  rintro e w3 ⟨r3, b3, rfl, d3, -, -, hw3, -, -⟩
  have H3 := hideH (bthen H2.out hw3)
  have D3 := hideH d3
  clear hw3 d3 H2
  go_wp2_with fail
  refine (zone_eu r3 b3 ⟨#[88]⟩ 0 4 _ ⟨HL.out.on H3.out, HM.out.on H3.out, D3.out⟩ (by decide) (X0 r3 b3) (eu_X r3 b3)).mono ?_
  rintro e w4 ⟨rfl, hw4⟩
  have H4 := hideH (bthen H3.out hw4)
  clear hw4 H3 D3
  go_wp2_with fail
  refine (europe_x _).mono ?_
  rintro e w5 ⟨r5, b5, rfl, d5, hr5, hs5, hw5, q2, q4⟩
  have H5 := hideH (bthen H4.out hw5)
  have D5 := hideH d5
  have Q2 := hideH q2
  have Q4 := hideH q4
  have hS5 := hideH (Nat.le_trans H4.out.size hs5)
  clear d5 hw5 q2 q4 H4 hs5
  have hb5 : b5 + 4 < w5.heap.size := (Array.getElem?_eq_some_iff.1 Q4.out).1
  have z4 : w5.cell? ⟨b5 + 4, 1, none⟩ = some (.string old) := by simp [World.cell?, Q4.out]
  have f4 : w5.frozen? ⟨b5 + 4, 1, none⟩ = false := by simp [World.frozen?, Q4.out]
  go_wp2_with fail
  clear z4 f4
  obtain ⟨w6, hw6⟩ : ∃ w6, w6 = (w5.setCell ⟨b5 + 4, 1, none⟩ (.string ⟨#[84]⟩)).alloc (.cells #[.slice (some ⟨b5, 0, none⟩) 1 1, .slice (some ⟨b5 + 3, 0, none⟩) 2 2, .slice (some ⟨b5 + 4, 0, none⟩) 2 2] 26) := ⟨_, rfl⟩
  simp only [← hw6]
  have B6 := hideH ((Below.refl _ (w5.setCell ⟨b5 + 4, 1, none⟩ (.string ⟨#[84]⟩))).alloc (Nat.le_refl _) (.cells #[.slice (some ⟨b5, 0, none⟩) 1 1, .slice (some ⟨b5 + 3, 0, none⟩) 2 2, .slice (some ⟨b5 + 4, 0, none⟩) 2 2] 26))
  have H6 : Hid (Below w.heap.size w w6) := by
    show Below _ _ _
    rw [hw6]
    exact bthen (H5.out.setCell (p := ⟨b5 + 4, 1, none⟩) (show w.heap.size ≤ _ from Nat.le_trans hS5.out (Nat.le_add_right _ _)) _) B6.out
  have D6 : Hid (DAt w6 (eu r5 b5 (-1) ⟨#[84]⟩)) := by
    show DAt _ _
    rw [hw6]
    exact (eu_link D5.out hr5 Q2.out Q4.out).on B6.out
  have X6 : Hid (w6.heap[w5.heap.size]? = some (.cells #[.slice (some ⟨b5, 0, none⟩) 1 1, .slice (some ⟨b5 + 3, 0, none⟩) 2 2, .slice (some ⟨b5 + 4, 0, none⟩) 2 2] 26)) := by
    show _ = _
    rw [hw6]
    have := World.alloc_heap_new (w5.setCell ⟨b5 + 4, 1, none⟩ (.string ⟨#[84]⟩)) (.cells #[.slice (some ⟨b5, 0, none⟩) 1 1, .slice (some ⟨b5 + 3, 0, none⟩) 2 2, .slice (some ⟨b5 + 4, 0, none⟩) 2 2] 26)
    rwa [World.size_setCell] at this
  clear hw6 B6 Q2 Q4 D5 H5
  refine (europe_x _).mono ?_
  rintro e w7 ⟨r7, b7, rfl, d7, hr7, hs7, hw7, q2, q4⟩
  have H7 := hideH (bthen H6.out hw7)
  have D7 := hideH d7
  have Q2 := hideH q2
  have Q4 := hideH q4
  have D6' := hideH (D6.out.on hw7)
  have X7 := hideH (heap_on X6.out hw7)
  have hS7 := hideH (Nat.le_trans H6.out.size hs7)
  have hx5 : b5 + 4 < b7 := by have := Nat.lt_of_lt_of_le (Array.getElem?_eq_some_iff.1 X6.out).1 hs7; omega
  have hx7 : w5.heap.size < b7 := Nat.lt_of_lt_of_le (Array.getElem?_eq_some_iff.1 X6.out).1 hs7
  clear d7 hw7 q2 q4 hs7 H6 D6 X6
  have hb7 : b7 + 4 < w7.heap.size := (Array.getElem?_eq_some_iff.1 Q4.out).1
  have hb73 : b7 + 3 < w7.heap.size := by omega
  have hb72 : b7 + 2 < w7.heap.size := by omega
  have z3 : w7.cell? ⟨b7 + 3, 3, none⟩ = some (.slice (some ⟨b7 + 2, 0, none⟩) 1 1) := by
    rcases D7.out.zones with h | ⟨b', off, e, a⟩
    · simp [eu] at h
    · obtain ⟨rfl, rfl⟩ : b7 + 3 = b' ∧ 0 = off := by simpa [eu] using e
      have := (a 1 (by simp [eu])).2
      simpa [eu] using this
  have z2 : w7.cell? ⟨b7 + 2, 1, none⟩ = some (.int .i64 (-1)) := by simp [World.cell?, Q2.out]
  have f2 : w7.frozen? ⟨b7 + 2, 1, none⟩ = false := by simp [World.frozen?, Q2.out]
  go_wp2_with fail
  clear z3 z2 f2
  obtain ⟨w8, hw8⟩ : ∃ w8, w8 = (w7.setCell ⟨b7 + 2, 1, none⟩ (.int .i64 0)).alloc (.cells #[.slice (some ⟨b7, 0, none⟩) 1 1, .slice (some ⟨b7 + 3, 0, none⟩) 2 2, .slice (some ⟨b7 + 4, 0, none⟩) 2 2] 26) := ⟨_, rfl⟩
  simp only [← hw8]
  have B8 := hideH ((Below.refl _ (w7.setCell ⟨b7 + 2, 1, none⟩ (.int .i64 0))).alloc (Nat.le_refl _) (.cells #[.slice (some ⟨b7, 0, none⟩) 1 1, .slice (some ⟨b7 + 3, 0, none⟩) 2 2, .slice (some ⟨b7 + 4, 0, none⟩) 2 2] 26))
  have H8 : Hid (Below w.heap.size w w8) := by
    show Below _ _ _
    rw [hw8]
    exact bthen (H7.out.setCell (p := ⟨b7 + 2, 1, none⟩) (show w.heap.size ≤ _ from Nat.le_trans hS7.out (Nat.le_add_right _ _)) _) B8.out
  have D8 : Hid (DAt w8 (eu r7 b7 0 old)) := by
    show DAt _ _
    rw [hw8]
    exact (eu_era D7.out hr7 Q2.out Q4.out).on B8.out
  have X8 : Hid (w8.heap[w7.heap.size]? = some (.cells #[.slice (some ⟨b7, 0, none⟩) 1 1, .slice (some ⟨b7 + 3, 0, none⟩) 2 2, .slice (some ⟨b7 + 4, 0, none⟩) 2 2] 26)) := by
    show _ = _
    rw [hw8]
    have := World.alloc_heap_new (w7.setCell ⟨b7 + 2, 1, none⟩ (.int .i64 0)) (.cells #[.slice (some ⟨b7, 0, none⟩) 1 1, .slice (some ⟨b7 + 3, 0, none⟩) 2 2, .slice (some ⟨b7 + 4, 0, none⟩) 2 2] 26)
    rwa [World.size_setCell] at this
  have D8' : Hid (DAt w8 (eu r5 b5 (-1) ⟨#[84]⟩)) := by
    show DAt _ _
    rw [hw8]
    refine DAt.on (w := w7.setCell ⟨b7 + 2, 1, none⟩ (.int .i64 0)) ?_ B8.out
    exact eu_kept D6'.out hr5 (fun k hk o => cell_set_other (by show k ≠ b7 + 2; omega))
  have X8' : Hid (w8.heap[w5.heap.size]? = some (.cells #[.slice (some ⟨b5, 0, none⟩) 1 1, .slice (some ⟨b5 + 3, 0, none⟩) 2 2, .slice (some ⟨b5 + 4, 0, none⟩) 2 2] 26)) := by
    show _ = _
    rw [hw8, Below.heap_alloc _ _ _ (by rw [World.size_setCell]; omega), Below.heap_setCell _ _ _ _ (show w5.heap.size ≠ b7 + 2 by omega)]
    exact X7.out
  clear hw8 B8 Q2 Q4 D7 H7 D6' X7
  refine (europe_x _).mono ?_
  rintro e w9 ⟨r9, b9, rfl, d9, -, -, hw9, -, -⟩
  have H9 := hideH (bthen H8.out hw9)
  have D9 := hideH d9
  have Dx := hideH (D8'.out.on hw9)
  have Dy := hideH (D8.out.on hw9)
  have Xx := hideH (heap_on X8'.out hw9)
  have Xy := hideH (heap_on X8.out hw9)
  clear d9 hw9 H8 D8 D8' X8 X8'
  go_wp2_with fail
  refine (check_eu r9 b9 (-1) old 0 _ ⟨HL.out.on H9.out, HM.out.on H9.out, D9.out⟩ old10 (eu_ok r9 b9)).mono ?_
  rintro e w10 ⟨rfl, hw10⟩
  have H10 := hideH (bthen H9.out hw10)
  have Dx10 := hideH (Dx.out.on hw10)
  have Dy10 := hideH (Dy.out.on hw10)
  have Xy10 := hideH (heap_on Xy.out hw10)
  obtain ⟨c0, c1, c2⟩ := cells3 (heap_on Xx.out hw10)
  clear hw10 H9 D9 Dx Dy Xx Xy
  go_wp2_with fail
  clear c0 c1 c2
  refine (check_eu r5 b5 (-1) ⟨#[84]⟩ 7 _ ⟨HL.out.on H10.out, HM.out.on H10.out, Dx10.out⟩ (by decide) (eu_round r5 b5)).mono ?_
  rintro e w11 ⟨rfl, hw11⟩
  have H11 := hideH (bthen H10.out hw11)
  have Dy11 := hideH (Dy10.out.on hw11)
  obtain ⟨c0, c1, c2⟩ := cells3 (heap_on Xy10.out hw11)
  clear hw11 H10 Dx10 Dy10 Xy10
  go_wp2_with fail
  clear c0 c1 c2
  refine (check_eu r7 b7 0 old 3 _ ⟨HL.out.on H11.out, HM.out.on H11.out, Dy11.out⟩ old10 (eu_range r7 b7)).mono ?_
  rintro e w12 ⟨rfl, hw12⟩
  have H12 := hideH (bthen H11.out hw12)
  clear hw12 H11 Dy11
  go_wp2_with fail
  refine (name_eu old true _ old10 eu_names.1).mono ?_
  rintro e w12 ⟨rfl, rfl⟩
  go_wp2_with fail
  refine (name_eu ⟨#[69, 47]⟩ false _ (by decide) eu_names.2.1).mono ?_
  rintro e w12 ⟨rfl, rfl⟩
  go_wp2_with fail
  refine (name_eu ⟨#[49, 97]⟩ false _ (by decide) eu_names.2.2).mono ?_
  rintro e w12 ⟨rfl, rfl⟩
  go_wp2_with fail
  go_ret
  exact ⟨rfl, H12.out⟩
end Go.Proofs.YtcdokhjmpkcpnacDoor

/- The walk of the statement NamesTells: it returns true, and nothing that lay in memory has turned. -/
import Derived.Test.YtmpiijipebngcaaGreatDoorNamesV
import Derived.Test.YtmpiijipebngcaaGreatDoorNamesDAll
namespace Go.Proofs.YtmpiijipebngcaaGreatDoor
open Go Go.RowKit Go.Maps
set_option linter.unusedVariables false

set_option maxRecDepth 100000 in
set_option maxHeartbeats 8000000 in
theorem NamesTells_w (X : Wd) (loc zn : ByteArray) (t p : Int) (w : World) (hE : NEnv w X) (hs0 : loc.size ≤ maxLen) (hs1 : zn.size ≤ maxLen) (ht : -9223372036854775808 ≤ t ∧ t ≤ 9223372036854775807) (hp : -9223372036854775808 ≤ p ∧ p ≤ 9223372036854775807) : Calls Tryz.prog 3 #[X.v, .string loc, .string zn, .int .i64 t, .int .i64 p] w fun e w' => e = .returned (.bool true) ∧ Below w.heap.size w w' := by
  have HE := hideH hE
  have HB := hideH ((Below.refl _ w).alloc (Nat.le_refl _) (.cells X.cs 30))
  have HX := hideH (World.alloc_heap_new w (.cells X.cs 30))
  obtain ⟨c0, c1, c2, c3, c4⟩ := cells5n HX.out
  have HN1 := hideH (fun v (hv : Below w.heap.size w v) => NName_c X loc zn t p v (HE.out.on hv) hs1)
  have HN2 := hideH (fun v (hv : Below w.heap.size w v) => NameOf_c X loc zn t p v (HE.out.on hv) hs1)
  have HC1 := hideH (fun v (hv : Below w.heap.size w v) => City_c zn v hs1 (HE.out.on hv).ue.env.mx)
  have HIs := hideH (fun v => RIsName_c zn v hs1)
  have HK1 := hideH (fun v (hv : Below w.heap.size w v) => NCheck_c X v (HE.out.on hv))
  have HK2 := hideH (fun v (hv : Below w.heap.size w v) => CheckWorld_c X v (HE.out.on hv))
  have HG := hideH (fun v (hv : Below w.heap.size w v) => namesBegun_c v (HE.out.on hv).ue.env.laid (HE.out.on hv).ue.env.mx)
  generalize nmR X loc zn t p = R at *
  generalize nmE X loc zn t p = E at *
  generalize nchk X = K at *
  clear hE
  have key : (nameB zn = true ∧ zn.size ≤ 12) ∨ nameB zn = false := by
    cases h : nameB zn with
    | true => exact .inl ⟨rfl, (nameB_12 h).2⟩
    | false => exact .inr rfl
  rcases key with ⟨hb, hz⟩ | hb
  · have HC2 := hideH (fun v => CityOf_c zn v hz)
    have e1 : ctB zn = ⟨(cty zn.data.toList).toArray⟩ := by unfold ctB; rw [if_pos hb]
    have e2 : ctE zn = 0 := by unfold ctE; rw [if_pos hb]
    rw [e1, e2] at HC1
    rw [hb] at HIs
    clear hb hz e1 e2
    generalize cty zn.data.toList = ct at *
    go_enter Tryz.func3, Tryz.ntmps3
    go_wp2_with fail
    refine (HN1.out _ HB.out).mono ?_
    rintro e w1 ⟨rfl, hw⟩
    have H1 := hideH (bthen HB.out hw)
    have C1 := hideH (heap_on HX.out hw)
    clear hw c0 c1 c2 c3 c4 HX HN1 HB
    obtain ⟨c0, c1, c2, c3, c4⟩ := cells5n C1.out
    go_wp2_with fail
    refine (HN2.out _ H1.out).mono ?_
    rintro e w2 ⟨rfl, hw⟩
    have H2 := hideH (bthen H1.out hw)
    have C2 := hideH (heap_on C1.out hw)
    clear hw c0 c1 c2 c3 c4 C1 HN2 H1
    go_wp2_with fail
    refine (HC1.out _ H2.out).mono ?_
    rintro e w3 ⟨rfl, hw⟩
    have H3 := hideH (bthen H2.out hw)
    have C3 := hideH (heap_on C2.out hw)
    clear hw C2 HC1 H2
    go_wp2_with fail
    refine (HIs.out _).mono ?_
    rintro e w4 ⟨rfl, rfl⟩
    go_wp2_with fail
    refine (HC2.out _).mono ?_
    rintro e w5 ⟨rfl, hw⟩
    have H5 := hideH (bthen H3.out hw)
    have C5 : Hid (bxW w.heap.size X w5) := cells5n (heap_on C3.out hw)
    clear hw C3 HC2 H3 HIs
    obtain ⟨c0, c1, c2, c3, c4⟩ := C5.out
    go_wp2_with fail
    go_region_held3 (fun v => bxW w.heap.size X v)
      (first | (exact C5.out) | (exact bxW_on (w := w5.drew) C5.out hw6) | (exact bxW_on (bxW_on (w := w5.drew) C5.out hw6) hw7) | (exact bxW_on (bxW_on (bxW_on (w := w5.drew) C5.out hw6) hw7) hw8))
      (first
      | (go_at_call 15; refine (HG.out _ (by exact H5.out.drew)).mono ?_; rintro e w6 ⟨rfl, hw6⟩)
      | (go_at_call 16; refine (HK1.out _ (by exact bthen (w := w) (a := w5.drew) H5.out.drew hw6)).mono ?_; rintro e w7 ⟨rfl, hw7⟩)
      | (go_at_call 17; refine (HK2.out _ (by exact bthen (bthen (w := w) (a := w5.drew) H5.out.drew hw6) hw7)).mono ?_; rintro e w8 ⟨rfl, hw8⟩))
    all_goals
      have H8 := hideH (bthen (bthen (bthen (w := w) (a := w5.drew) H5.out.drew hw6) hw7) hw8)
      clear hw6 hw7 hw8 c0 c1 c2 c3 c4
      go_wp2_with fail
      go_ret
      exact ⟨ret_bool (by simp), H8.out⟩
  · have e1 : ctB zn = ⟨#[]⟩ := by unfold ctB; rw [hb]; rfl
    have e2 : ctE zn = 5 := by unfold ctE; rw [hb]; rfl
    rw [e1, e2] at HC1
    rw [hb] at HIs
    clear hb e1 e2
    go_enter Tryz.func3, Tryz.ntmps3
    go_wp2_with fail
    refine (HN1.out _ HB.out).mono ?_
    rintro e w1 ⟨rfl, hw⟩
    have H1 := hideH (bthen HB.out hw)
    have C1 := hideH (heap_on HX.out hw)
    clear hw c0 c1 c2 c3 c4 HX HN1 HB
    obtain ⟨c0, c1, c2, c3, c4⟩ := cells5n C1.out
    go_wp2_with fail
    refine (HN2.out _ H1.out).mono ?_
    rintro e w2 ⟨rfl, hw⟩
    have H2 := hideH (bthen H1.out hw)
    have C2 := hideH (heap_on C1.out hw)
    clear hw c0 c1 c2 c3 c4 C1 HN2 H1
    go_wp2_with fail
    refine (HC1.out _ H2.out).mono ?_
    rintro e w3 ⟨rfl, hw⟩
    have H5 := hideH (bthen H2.out hw)
    have C5 : Hid (bxW w.heap.size X w3) := cells5n (heap_on C2.out hw)
    clear hw C2 HC1 H2
    go_wp2_with fail
    refine (HIs.out _).mono ?_
    rintro e w5 ⟨rfl, rfl⟩
    clear HIs
    obtain ⟨c0, c1, c2, c3, c4⟩ := C5.out
    go_wp2_with fail
    go_region_held3 (fun v => bxW w.heap.size X v)
      (first | (exact C5.out) | (exact bxW_on (w := w5.drew) C5.out hw6) | (exact bxW_on (bxW_on (w := w5.drew) C5.out hw6) hw7) | (exact bxW_on (bxW_on (bxW_on (w := w5.drew) C5.out hw6) hw7) hw8))
      (first
      | (go_at_call 15; refine (HG.out _ (by exact H5.out.drew)).mono ?_; rintro e w6 ⟨rfl, hw6⟩)
      | (go_at_call 16; refine (HK1.out _ (by exact bthen (w := w) (a := w5.drew) H5.out.drew hw6)).mono ?_; rintro e w7 ⟨rfl, hw7⟩)
      | (go_at_call 17; refine (HK2.out _ (by exact bthen (bthen (w := w) (a := w5.drew) H5.out.drew hw6) hw7)).mono ?_; rintro e w8 ⟨rfl, hw8⟩))
    all_goals
      have H8 := hideH (bthen (bthen (bthen (w := w) (a := w5.drew) H5.out.drew hw6) hw7) hw8)
      clear hw6 hw7 hw8 c0 c1 c2 c3 c4
      go_wp2_with fail
      go_ret
      exact ⟨ret_bool (by simp), H8.out⟩
end Go.Proofs.YtmpiijipebngcaaGreatDoor

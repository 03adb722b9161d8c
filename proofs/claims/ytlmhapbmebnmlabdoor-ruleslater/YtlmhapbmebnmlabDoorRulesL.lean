/- The contract of the statements' own rulesBegun. -/
import Derived.Test.YtlmhapbmebnmlabDoorRulesK
namespace Go.Proofs.YtlmhapbmebnmlabDoor
open Go Go.RowKit
set_option linter.unusedVariables false

set_option maxHeartbeats 8000000 in
theorem rulesBegun_c (w : World) (hL : Laid w) : Calls Tryd.prog 9 #[] w fun e w' => e = .returned (.bool true) ∧ Below w.heap.size w w' := by
  have HL := hideH hL
  clear hL
  go_enter Tryd.func9, Tryd.ntmps9
  go_wp2_with fail
  refine (spring_c _).mono ?_
  rintro e w1 ⟨rfl, hr, hw⟩
  have H1 := hideH hw
  have L1 := hideH (HL.out.on hw)
  obtain ⟨c0, c1, c2, c3, c4, c5, c6, c7, c8⟩ := hr.box (by omega)
  clear hr hw
  go_wp2_with fail
  refine (At_c (spr 0) 2020 3600 _ L1.out (spr_size 0 (by omega))).mono ?_
  rintro e w2 ⟨rfl, hw⟩
  have H2 := hideH (bthen H1.out hw)
  have L2 := hideH (L1.out.on hw)
  clear hw c0 c1 c2 c3 c4 c5 c6 c7 c8 H1 L1
  rw [sv1, sv2]
  go_wp2_with fail
  refine (spring_c _).mono ?_
  rintro e w3 ⟨rfl, hr, hw⟩
  have H3 := hideH (bthen H2.out hw)
  have L3 := hideH (L2.out.on hw)
  have R3 := hideH hr
  clear hr hw H2 L2
  go_wp2_with fail
  refine (Last_some _ 0 2 2 spr 3600 1585443600 _ L3.out R3.out (by unfold maxLen; omega) spr_size).mono ?_
  rintro e w4 ⟨rfl, hw⟩
  have H4 := hideH (bthen H3.out hw)
  have L4 := hideH (L3.out.on hw)
  clear hw H3 L3 R3
  rw [sv3, sv4, sv5]
  go_wp2_with fail
  refine (spring_c _).mono ?_
  rintro e w5 ⟨rfl, hr, hw⟩
  have H5 := hideH (bthen H4.out hw)
  have L5 := hideH (L4.out.on hw)
  have R5 := hideH hr
  clear hr hw H4 L4
  go_wp2_with fail
  refine (Last_some _ 0 2 2 spr 3600 1585443599 _ L5.out R5.out (by unfold maxLen; omega) spr_size).mono ?_
  rintro e w6 ⟨rfl, hw⟩
  have H6 := hideH (bthen H5.out hw)
  have L6 := hideH (L5.out.on hw)
  clear hw H5 L5 R5
  rw [sv6, sv7]
  go_wp2_with fail
  refine (spring_c _).mono ?_
  rintro e w7 ⟨rfl, hr, hw⟩
  have H7 := hideH (bthen H6.out hw)
  have L7 := hideH (L6.out.on hw)
  have R7 := hideH hr
  clear hr hw H6 L6
  go_wp2_with fail
  refine (Last_some _ 0 2 2 spr 0 0 _ L7.out R7.out (by unfold maxLen; omega) spr_size).mono ?_
  rintro e w8 ⟨rfl, hw⟩
  have H8 := hideH (bthen H7.out hw)
  have L8 := hideH (L7.out.on hw)
  clear hw H7 L7 R7
  rw [sv8]
  go_wp2_with fail
  refine (spring_c _).mono ?_
  rintro e w9 ⟨rfl, hr, hw⟩
  have H9 := hideH (bthen H8.out hw)
  have L9 := hideH (L8.out.on hw)
  obtain ⟨c0, c1, c2, c3, c4, c5, c6, c7, c8⟩ := hr.box (by omega)
  clear hr hw H8 L8
  go_wp2_with fail
  have HX : Hid (RBox (w9.alloc (.cells #[.int .i64 (spr 0).f, .int .i64 (spr 0).t, .int .i64 (spr 0).m, .int .i64 (spr 0).k, .int .i64 (spr 0).wk, .int .i64 (spr 0).D, .int .i64 (spr 0).a, .int .i64 (spr 0).sv, .string ⟨#[49]⟩] 25)) w9.heap.size sprX) := rbox_new w9 sprX
  have HA : Hid (Below w9.heap.size w9 (w9.alloc (.cells #[.int .i64 (spr 0).f, .int .i64 (spr 0).t, .int .i64 (spr 0).m, .int .i64 (spr 0).k, .int .i64 (spr 0).wk, .int .i64 (spr 0).D, .int .i64 (spr 0).a, .int .i64 (spr 0).sv, .string ⟨#[49]⟩] 25))) := (Below.refl _ _).alloc (Nat.le_refl _) _
  generalize w9.alloc (.cells #[.int .i64 (spr 0).f, .int .i64 (spr 0).t, .int .i64 (spr 0).m, .int .i64 (spr 0).k, .int .i64 (spr 0).wk, .int .i64 (spr 0).D, .int .i64 (spr 0).a, .int .i64 (spr 0).sv, .string ⟨#[49]⟩] 25) = w10 at *
  have H10 := hideH (bthen H9.out HA.out)
  have L10 := hideH (L9.out.on HA.out)
  clear c0 c1 c2 c3 c4 c5 c6 c7 c8 H9 L9 HA
  generalize w9.heap.size = b9 at *
  refine (spring_c _).mono ?_
  rintro e w11 ⟨rfl, hr, hw⟩
  have H11 := hideH (bthen H10.out hw)
  have L11 := hideH (L10.out.on hw)
  have X11 := hideH (HX.out.on hw)
  obtain ⟨c0, c1, c2, c3, c4, c5, c6, c7, c8⟩ := hr.box (by omega)
  clear hr hw H10 L10 HX
  go_wp2_with fail
  refine (RCheck_c (spr 0) _ L11.out (spr_size 0 (by omega))).mono ?_
  rintro e w12 ⟨rfl, hw⟩
  have H12 := hideH (bthen H11.out hw)
  have L12 := hideH (L11.out.on hw)
  have X12 := hideH (X11.out.on hw)
  clear c0 c1 c2 c3 c4 c5 c6 c7 c8 hw H11 L11 X11
  obtain ⟨c0, c1, c2, c3, c4, c5, c6, c7, c8⟩ := X12.out
  rw [sv9]
  go_wp2_with fail
  refine (RCheck_c sprX _ L12.out (by unfold maxLen; decide)).mono ?_
  rintro e w13 ⟨rfl, hw⟩
  have H13 := hideH (bthen H12.out hw)
  clear c0 c1 c2 c3 c4 c5 c6 c7 c8 hw
  rw [sv10]
  go_wp2_with fail
  go_ret
  exact ⟨rfl, H13.out⟩
end Go.Proofs.YtlmhapbmebnmlabDoor

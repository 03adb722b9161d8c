/- The walk of the statement RulesTells: it returns true, and nothing that lay in memory has turned. -/
import Derived.Test.YtlmhapbmebnmlabDoorRulesL
namespace Go.Proofs.YtlmhapbmebnmlabDoor
open Go Go.RowKit
set_option linter.unusedVariables false

set_option maxHeartbeats 8000000 in
theorem RulesTells_w (r : Rl) (y std : Int) (w : World) (hL : Laid w) (hs : r.s.size ≤ maxLen) : Calls Tryd.prog 3 #[r.v, .int .i64 y, .int .i64 std] w fun e w' => e = .returned (.bool true) ∧ Below w.heap.size w w' := by
  have HL := hideH hL
  have HS := hideH hs
  clear hL hs
  have HX := hideH (rbox_new w r)
  have H0 : Hid (Below w.heap.size w (w.alloc (.cells r.cs 25))) := (Below.refl _ _).alloc (Nat.le_refl _) _
  have L0 := hideH (HL.out.on H0.out)
  go_enter Tryd.func3, Tryd.ntmps3
  go_wp2_with fail
  refine (At_c r y std _ L0.out HS.out).mono ?_
  rintro e w1 ⟨rfl, hw⟩
  have H1 : Hid (Below w.heap.size w w1) := bthen H0.out hw
  have L1 : Hid (Laid w1) := HL.out.on H1.out
  have X1 : Hid (RBox w1 w.heap.size r) := HX.out.on hw
  clear hw H0 L0 HX
  obtain ⟨c0, c1, c2, c3, c4, c5, c6, c7, c8⟩ := X1.out
  go_wp2_with fail
  refine (AtOf_c r y std _ HS.out).mono ?_
  rintro e w2 ⟨rfl, hw⟩
  have H2 : Hid (Below w.heap.size w w2) := bthen H1.out hw
  have L2 : Hid (Laid w2) := HL.out.on H2.out
  have X2 : Hid (RBox w2 w.heap.size r) := X1.out.on hw
  clear hw H1 L1 X1 c0 c1 c2 c3 c4 c5 c6 c7 c8
  obtain ⟨c0, c1, c2, c3, c4, c5, c6, c7, c8⟩ := X2.out
  go_wp2_with fail
  go_region_held3 (fun v => v.cell? ⟨w.heap.size, 0, none⟩ = some (.int .i64 r.f) ∧ v.cell? ⟨w.heap.size, 1, none⟩ = some (.int .i64 r.t) ∧ v.cell? ⟨w.heap.size, 2, none⟩ = some (.int .i64 r.m) ∧ v.cell? ⟨w.heap.size, 3, none⟩ = some (.int .i64 r.k) ∧ v.cell? ⟨w.heap.size, 4, none⟩ = some (.int .i64 r.wk) ∧ v.cell? ⟨w.heap.size, 5, none⟩ = some (.int .i64 r.D) ∧ v.cell? ⟨w.heap.size, 6, none⟩ = some (.int .i64 r.a) ∧ v.cell? ⟨w.heap.size, 7, none⟩ = some (.int .i64 r.sv) ∧ v.cell? ⟨w.heap.size, 8, none⟩ = some (.string r.s))
    (first | (exact X2.out) | (exact RBox.on (w := w2.drew) X2.out hw3) | (exact (RBox.on (w := w2.drew) X2.out hw3).on hw4) | (exact ((RBox.on (w := w2.drew) X2.out hw3).on hw4).on hw5))
    (first
    | (go_at_call 9; refine (rulesBegun_c _ (by exact L2.out)).mono ?_; rintro e w3 ⟨rfl, hw3⟩)
    | (go_at_call 10; refine (RCheck_c r _ (by exact Laid.on (w := w2.drew) L2.out hw3) HS.out).mono ?_; rintro e w4 ⟨rfl, hw4⟩)
    | (go_at_call 11; refine (CheckRule_c r _ HS.out).mono ?_; rintro e w5 ⟨rfl, hw5⟩))
  go_wp2_with fail
  go_ret
  exact ⟨rfl, bthen (bthen (bthen (w := w) (a := w2.drew) H2.out.drew hw3) hw4) hw5⟩
end Go.Proofs.YtlmhapbmebnmlabDoor

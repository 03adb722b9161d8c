/- The walk of the statement PickTells: it returns true, and nothing that lay in memory has turned. -/
import Derived.Test.YtlmhapbmebnmlaaDoorPickT
import Derived.Deep.RegionHeld3
namespace Go.Proofs.YtlmhapbmebnmlaaDoor
open Go Go.RowKit
set_option linter.unusedVariables false

set_option maxHeartbeats 2000000 in
theorem PickTells_w (y m k wk D : Int) (w : World) (hL : Laid w) : Calls Tryd.prog 6 #[.int .i64 y, .int .i64 m, onV k wk D] w fun e w' => e = .returned (.bool true) ∧ Below w.heap.size w w' := by
  have HL : Hid (Laid w) := hL
  clear hL
  go_enter Tryd.func6, Tryd.ntmps6
  go_wp2_with fail
  have hbox : Box (w.alloc (.cells #[.int .i64 k, .int .i64 wk, .int .i64 D] 36)) w.heap.size k wk D := ⟨by go_simp, by go_simp, by go_simp⟩
  have H0 : Hid (Below w.heap.size w (w.alloc (.cells #[.int .i64 k, .int .i64 wk, .int .i64 D] 36))) := (Below.refl _ _).alloc (Nat.le_refl _) _
  have L0 := hideH (HL.out.on H0.out)
  have B0 := hideH hbox
  clear hbox
  generalize w.alloc (.cells #[.int .i64 k, .int .i64 wk, .int .i64 D] 36) = w0 at *
  refine (Find_c _ _ _ _ _ _ L0.out).mono ?_
  rintro e w1 ⟨rfl, hw1⟩
  have H1 := hideH (bthen H0.out hw1)
  have L1 := hideH (L0.out.on hw1)
  have B1 := hideH (B0.out.on hw1)
  obtain ⟨c0, c1, c2⟩ := B1.out
  clear hw1 B0
  go_wp2_with fail
  clear c0 c1 c2
  refine (FindOf_c _ _ _ _ _ _).mono ?_
  rintro e w2 ⟨rfl, hw2⟩
  have H2 := hideH (bthen H1.out hw2)
  have L2 := hideH (L1.out.on hw2)
  have B2 := hideH (B1.out.on hw2)
  obtain ⟨c0, c1, c2⟩ := B2.out
  clear hw2 B1
  go_wp2_with fail
  go_region_held3 (fun v => v.cell? ⟨w.heap.size, 0, none⟩ = some (.int .i64 k) ∧ v.cell? ⟨w.heap.size, 1, none⟩ = some (.int .i64 wk) ∧ v.cell? ⟨w.heap.size, 2, none⟩ = some (.int .i64 D))
    (first | (exact B2.out) | (exact Box.on (w := w2.drew) B2.out hw3) | (exact (Box.on (w := w2.drew) B2.out hw3).on hw4) | (exact ((Box.on (w := w2.drew) B2.out hw3).on hw4).on hw5))
    (first
    | (go_at_call 20; refine (pickBegun_c _ (by exact L2.out)).mono ?_; rintro e w3 ⟨rfl, hw3⟩)
    | (go_at_call 21; refine (Check_c _ _ _ _).mono ?_; rintro e w4 ⟨rfl, hw4⟩)
    | (go_at_call 22; refine (CheckOn_c _ _ _ _).mono ?_; rintro e w5 ⟨rfl, hw5⟩))
  go_wp2_with fail
  go_ret
  exact ⟨rfl, bthen (bthen (bthen (w := w) (a := w2.drew) H2.out.drew hw3) hw4) hw5⟩
end Go.Proofs.YtlmhapbmebnmlaaDoor

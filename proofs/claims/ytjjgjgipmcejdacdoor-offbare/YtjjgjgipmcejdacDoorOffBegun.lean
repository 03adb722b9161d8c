/- What off.At answers of the statements' own data. -/
import Derived.Test.YtjjgjgipmcejdacDoorOffE
import Derived.Test.YtjjgjgipmcejdacDoorDataBegunW
namespace Go.Proofs.YtjjgjgipmcejdacDoor
open Go Go.RowKit Go.Maps
set_option linter.unusedVariables false

set_option maxRecDepth 100000 in
theorem ob1 (r b : Nat) : atsE (eu r b (-1) old) ⟨#[84, 111, 119, 110]⟩ 1585443600 = 0 := by kernel_rfl
set_option maxRecDepth 100000 in
theorem ob2 (r b : Nat) : atsR (eu r b (-1) old) ⟨#[84, 111, 119, 110]⟩ 1585443600 = ⟨7200, 3600, ⟨#[67, 69, 68, 84]⟩⟩ := by kernel_rfl
set_option maxRecDepth 100000 in
theorem ob3 (r b : Nat) : atsE (eu r b (-1) old) ⟨#[84]⟩ 1585443599 = 0 := by kernel_rfl
set_option maxRecDepth 100000 in
theorem ob4 (r b : Nat) : atsR (eu r b (-1) old) ⟨#[84]⟩ 1585443599 = ⟨3600, 0, ⟨#[67, 69, 83, 84]⟩⟩ := by kernel_rfl
set_option maxRecDepth 100000 in
theorem ob5 (r b : Nat) : atsE (eu r b (-1) old) old 7 = 0 := by kernel_rfl
set_option maxRecDepth 100000 in
theorem ob6 (r b : Nat) : atsR (eu r b (-1) old) old 7 = ⟨1800, 0, ⟨#[76, 77, 84]⟩⟩ := by kernel_rfl
set_option maxRecDepth 100000 in
theorem ob7 (r b : Nat) : atsE (eu r b (-1) old) ⟨#[65, 47, 87, 101, 115, 116]⟩ 7 = 0 := by kernel_rfl
set_option maxRecDepth 100000 in
theorem ob8 (r b : Nat) : atsR (eu r b (-1) old) ⟨#[65, 47, 87, 101, 115, 116]⟩ 7 = ⟨-14400, 3600, ⟨#[88, 84]⟩⟩ := by kernel_rfl
end Go.Proofs.YtjjgjgipmcejdacDoor

/- What off.At answers of the statements' own data. -/
import Derived.Test.YtdffopkljomipaaGreatDoorOffCAll
import Derived.Test.YtdffopkljomipaaGreatDoorDataBegunAll
namespace Go.Proofs.YtdffopkljomipaaGreatDoor
open Go Go.RowKit Go.Maps
set_option linter.unusedVariables false

set_option maxRecDepth 100000 in
theorem ob1 (r b : Nat) : atsE (eu r b (-1) old) ⟨#[84, 111, 119, 110]⟩ 1585443600 = 0 := by kernel_rfl
set_option maxRecDepth 100000 in
theorem ob2 (r b : Nat) : atsR (eu r b (-1) old) ⟨#[84, 111, 119, 110]⟩ 1585443600 = ⟨7200, 3600, ⟨#[67, 69, 68, 84]⟩⟩ := by kernel_rfl
set_option maxRecDepth 100000 in
theorem ob3 (r b : Nat) : atsE (eu r b (-1) old) ⟨#[84]⟩ 1585443599 = 0 := by kernel_rfl
set_option maxRecDepth 100000 in
theorem ob4 (r b : Nat) : atsR (eu r b (-1) old) ⟨#[84]⟩ 1585443599 = ⟨3600, 0, ⟨#[67, 69, 83, 84]⟩⟩ := by kernel_rfl
set_option maxRecDepth 100000 in
theorem ob5 (r b : Nat) : atsE (eu r b (-1) old) old 7 = 0 := by kernel_rfl
set_option maxRecDepth 100000 in
theorem ob6 (r b : Nat) : atsR (eu r b (-1) old) old 7 = ⟨1800, 0, ⟨#[76, 77, 84]⟩⟩ := by kernel_rfl
set_option maxRecDepth 100000 in
theorem ob7 (r b : Nat) : atsE (eu r b (-1) old) ⟨#[65, 47, 87, 101, 115, 116]⟩ 7 = 0 := by kernel_rfl
set_option maxRecDepth 100000 in
theorem ob8 (r b : Nat) : atsR (eu r b (-1) old) ⟨#[65, 47, 87, 101, 115, 116]⟩ 7 = ⟨-14400, 3600, ⟨#[88, 84]⟩⟩ := by kernel_rfl
end Go.Proofs.YtdffopkljomipaaGreatDoor

/- What the statements ask of what holds in any case: offBegun answers true. -/
namespace Go.Proofs.YtdffopkljomipaaGreatDoor
open Go Go.RowKit Go.Maps
set_option linter.unusedVariables false

theorem at_eu (r b : Nat) (s : ByteArray) (t : Int) (o : Of) (w : World) (hE : Env w (eu r b (-1) old)) (hs : s.size ≤ 10) (h1 : atsR (eu r b (-1) old) s t = o) (h2 : atsE (eu r b (-1) old) s t = 0) :
    Calls Tryz.prog 13 #[.agg #[.slice (some ⟨b, 0, none⟩) 1 1, .slice (some ⟨b + 3, 0, none⟩) 2 2, .slice (some ⟨b + 4, 0, none⟩) 2 2], .string s, .int .i64 t] w fun e' w' => e' = .returned (.tuple #[.agg #[.int .i64 o.tot, .int .i64 o.sv, .string o.ab], .int .i64 0]) ∧ Below w.heap.size w w' := by
  have := OAt_c (eu r b (-1) old) s t w hE (eu_fits r b (-1) old old10) (eu_small s hs)
  rw [h1, h2] at this
  exact this
end Go.Proofs.YtdffopkljomipaaGreatDoor

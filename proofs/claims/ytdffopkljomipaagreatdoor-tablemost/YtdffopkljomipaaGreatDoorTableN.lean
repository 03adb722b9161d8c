/- What Compile answers of europe's Town. -/
import Derived.Test.YtdffopkljomipaaGreatDoorTableL
import Derived.Test.YtdffopkljomipaaGreatDoorOffAAll
import Derived.KernelRfl
namespace Go.Proofs.YtdffopkljomipaaGreatDoor
open Go Go.RowKit Go.Maps Go.Shelf
set_option linter.unusedVariables false

def tmI (D : Dt) (k m : Nat) : List Int := (List.range m).flatMap fun i => isoI (bgU D (frm (D.zs k).es i) ((D.zs k).es i))
theorem tmN_iso (D : Dt) (k m : Nat) : tmN D k m = tmI D k m := by
  unfold tmN tmI bgL
  simp only [srtI_iso]
def cmpI (D : Dt) (k : Nat) : List (Int × Of) := Tab.pushL oeq (offR D k) [] (tmI D k (D.zs k).n)
theorem cmpT_iso (D : Dt) (k : Nat) : cmpT D k = cmpI D k := by
  unfold cmpT cmpI
  rw [tmN_iso]
theorem eu_zon (r b : Nat) : zonR (eu r b (-1) old) ⟨#[84, 111, 119, 110]⟩ = 0 := by kernel_rfl
theorem eu_zonE (r b : Nat) : zonE (eu r b (-1) old) ⟨#[84, 111, 119, 110]⟩ = 0 := by kernel_rfl
end Go.Proofs.YtdffopkljomipaaGreatDoor

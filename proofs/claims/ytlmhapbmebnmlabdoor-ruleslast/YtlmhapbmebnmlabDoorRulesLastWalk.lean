/- The walk of the statement RulesLast: it returns true, and nothing that lay in memory has turned. -/
import Derived.Test.YtlmhapbmebnmlabDoorRulesL
namespace Go.Proofs.YtlmhapbmebnmlabDoor
open Go Go.RowKit
set_option linter.unusedVariables false

set_option maxHeartbeats 4000000 in
theorem RulesLast_w (a : Option Addr) (n cap : Nat) (rs : Nat → Rl) (std t : Int) (w : World) (hL : Laid w) (hR : ARow w a n cap rs) (hm : n ≤ maxLen) (hz : ∀ j, j < n → (rs j).s.size ≤ maxLen) :
    Calls Tryd.prog 4 #[.slice a n cap, .int .i64 std, .int .i64 t] w fun e w' => e = .returned (.bool true) ∧ Below w.heap.size w w' := by
  have HL := hideH hL
  have HR := hideH hR
  have HM := hideH hm
  have HZ := hideH hz
  clear hL hR hm hz
  go_enter Tryd.func4, Tryd.ntmps4
  go_wp2_with fail
  refine (Last_c a n cap rs std t _ HL.out HR.out HM.out HZ.out).mono ?_
  rintro e w1 ⟨rfl, hw⟩
  have H1 : Hid (Below w.heap.size w w1) := hw
  have R1 := hideH (HR.out.on hw)
  clear hw
  go_wp2_with fail
  refine (LastOf_c a n cap rs std t _ R1.out HM.out HZ.out).mono ?_
  rintro e w2 ⟨rfl, hw⟩
  have H2 : Hid (Below w.heap.size w w2) := bthen H1.out hw
  have L2 := hideH (HL.out.on H2.out)
  clear hw
  go_wp2_with fail
  refine (rulesBegun_c _ L2.out).mono ?_
  rintro e w3 ⟨rfl, hw⟩
  have H3 : Hid (Below w.heap.size w w3) := bthen H2.out hw
  clear hw
  go_wp2_with fail
  go_ret
  exact ⟨rfl, H3.out⟩
end Go.Proofs.YtlmhapbmebnmlabDoor

/- The walk of the statement OffsTells: it returns true, and nothing that lay in memory has turned. -/
import Derived.Test.YtcdokhjmpkcpnafDoorOffsF
namespace Go.Proofs.YtcdokhjmpkcpnafDoor
open Go Go.RowKit
set_option linter.unusedVariables false

set_option maxRecDepth 100000 in
set_option maxHeartbeats 8000000 in
theorem OffsTells_w (st n : Int) (s : List UInt8) (w : World) (hE : EV w) (hs : s.length ≤ 140737488351232) : Calls Tryd.prog 3 #[.int .i64 st, .int .i64 n, .string ⟨s.toArray⟩] w fun e w' => e = .returned (.bool true) ∧ Below w.heap.size w w' := by
  have HBg : Hid (∀ v, Below w.heap.size w v → Calls Tryd.prog 10 #[] v fun e w' => e = .returned (.bool true) ∧ Below v.heap.size v w') := fun v hv => offsBegun_c v (hE.on hv)
  have HS := hideO (fun v => Show_c st n v)
  have HT := hideO (fun v => OffText_c st n v)
  have HR : Hid (∀ v, Below w.heap.size w v → Calls Tryd.prog 7 #[.int .i64 st, .string ⟨s.toArray⟩] v fun e w' => e = .returned (.tuple #[.int .i64 (rdN st s), .int .i64 (rdE st s)]) ∧ Below v.heap.size v w') := fun v hv => Read_c st s hs v (hE.on hv)
  have HF := hideO (fun v => OffFrom_c st s (by omega) v)
  clear hE
  generalize shwT st n = T at *
  generalize shwE st n = E at *
  generalize rdN st s = K at *
  generalize rdE st s = F at *
  go_enter Tryd.func3, Tryd.ntmps3
  go_wp2_with fail
  refine (HS.out _).mono ?_
  rintro e w1 ⟨rfl, h1⟩
  have H1 := hideO h1
  clear h1
  go_wp2_with fail
  refine (HR.out _ H1.out).mono ?_
  rintro e w2 ⟨rfl, h2⟩
  have H2 := hideO (bthenO H1.out h2)
  clear h2
  go_wp2_with fail
  refine (HT.out _).mono ?_
  rintro e w3 ⟨rfl, h3⟩
  have H3 := hideO (bthenO H2.out h3)
  clear h3
  go_wp2_with fail
  refine (HF.out _).mono ?_
  rintro e w4 ⟨rfl, h4⟩
  have H4 := hideO (bthenO H3.out h4)
  clear h4
  go_wp2_with (go_at_call 10; refine (HBg.out _ H4.out).mono ?_; rintro e w5 ⟨rfl, hw5⟩)
  go_ret
  exact ⟨rfl, bthenO H4.out hw5⟩
end Go.Proofs.YtcdokhjmpkcpnafDoor

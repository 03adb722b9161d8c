/- Contracts of package data: Check. -/
import Derived.Test.YtainhpnmgligjaeGreatDoorDataL
namespace Go.Proofs.YtainhpnmgligjaeGreatDoor
open Go Go.RowKit
set_option linter.unusedVariables false

theorem Check1_c (D : Dt) (b : Nat) (w : World) (hc : w.heap[b]? = some (.cells #[.slice D.sa D.ns D.sc, .slice D.za D.nz D.zc, .slice D.la D.nl D.lc] 26)) (hE : Env w D) (hF : D.fits) :
    Calls Tryz.prog 50 #[.pointer (some ⟨b, 0, none⟩)] w fun e w' => e = left (chkE D) ∧ Below w.heap.size w w' := by
  obtain ⟨c0, c1, c2⟩ := cells3 hc
  have HE := hideH hE
  have HF := hideH hF
  clear hc hE hF
  go_enter Tryz.func50, Tryz.ntmps50
  go_wp2_with fail
  refine (check_c D _ HE.out HF.out).mono ?_
  rintro e w1 ⟨hw, hor⟩
  have HW := hideH hw
  clear hw c0 c1 c2
  rcases hor with ⟨h0, _, _, B, rfl, _⟩ | ⟨h0, rfl⟩
  · have HX : Hid (left (chkE D) = .returned (.tuple #[])) := by show left _ = _; rw [h0]; rfl
    clear h0
    go_wp2_with fail
    go_end0
    exact ⟨HX.out.symm, HW.out⟩
  · have HX : Hid (left (chkE D) = pan (chkE D)) := left_no h0
    clear h0
    go_wp2_with fail
    exact ⟨rfl, HX.out.symm, HW.out⟩
theorem enters_Check1 (args : Array Value) : ∀ w, (callFunc 50 args).run Tryz.prog w = .ok (.enter 50 args) w := fun w => enters_of Tryz.func50 (by kernel_rfl) rfl args w

theorem DCheck_c (D : Dt) (w : World) (hE : Env w D) (hF : D.fits) : Calls Tryz.prog 27 #[D.v] w fun e w' => e = .returned (.int .i64 (chkE D)) ∧ Below w.heap.size w w' := by
  have hmf : ∀ (fn : Fn) (first cap : Array Value) (w : World), (Instr.makeFunc fn first cap).run Tryz.prog w = .ok (.func fn first cap) w := fun _ _ _ _ => rfl
  have hb0 := hideH ((Below.refl _ w).alloc (Nat.le_refl _) (.cells #[.slice D.sa D.ns D.sc, .slice D.za D.nz D.zc, .slice D.la D.nl D.lc] 26))
  have E0 := hideH (hE.on hb0.out)
  have C0 : Hid ((w.alloc (.cells #[.slice D.sa D.ns D.sc, .slice D.za D.nz D.zc, .slice D.la D.nl D.lc] 26)).heap[w.heap.size]? = some (.cells #[.slice D.sa D.ns D.sc, .slice D.za D.nz D.zc, .slice D.la D.nl D.lc] 26)) := World.alloc_heap_new _ _
  have HF := hideH hF
  clear hE hF
  go_enter Tryz.func27, Tryz.ntmps27
  go_wp2_with fail
  generalize w.alloc (.cells #[.slice D.sa D.ns D.sc, .slice D.za D.nz D.zc, .slice D.la D.nl D.lc] 26) = w0 at *
  have hb1 := hideH ((Below.refl _ w0).alloc (Nat.le_refl _) (.cells #[.int .i64 0] 28))
  refine (caught_c 50 _ (chkE D) (fun w1 => Below (w0.alloc (.cells #[.int .i64 0] 28)).heap.size (w0.alloc (.cells #[.int .i64 0] 28)) w1) w0 (enters_Check1 _)
    (fun w1 h => (h.block _ (by simp)).trans (Boxed.new w0 28 (.int .i64 0)))
    (Check1_c D w.heap.size _ (heap_on C0.out hb1.out) (E0.out.on hb1.out) HF.out)).mono ?_
  rintro e w2 ⟨rfl, w1, h1, rfl⟩
  have HB := hideH (hb0.out.trans ((((hb1.out.trans (h1.mono (by simp))).setCell (p := ⟨w0.heap.size, 0, none⟩) (Nat.le_refl _) (.int .i64 (chkE D)))).mono hb0.out.size))
  clear h1
  go_wp2_with fail
  go_ret
  exact ⟨rfl, HB.out⟩
end Go.Proofs.YtainhpnmgligjaeGreatDoor

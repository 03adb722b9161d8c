/- Contracts of package data: caught, which recovers. -/
import Derived.Test.YtdffopkljomipaaGreatDoorDataK
import Derived.Defers
import Derived.Recover
import Derived.Laws.Pointers
namespace Go.Proofs.YtdffopkljomipaaGreatDoor
open Go Go.RowKit
set_option linter.unusedVariables false

theorem assert_err (e : Int) : ∀ w : World, (Instr.typeAssert (errV e) 20 28 false).run Tryz.prog w = .ok (.int .i64 e) w := by
  intro w
  kernel_rfl
set_option maxRecDepth 100000 in
theorem catch_p (b : Nat) (x e : Int) (older : List PanicEntry) (w : World) (hc : w.cell? ⟨b, 0, none⟩ = some (.int .i64 x)) (hz : w.frozen? ⟨b, 0, none⟩ = false) :
    CallsD Tryz.prog 50 #[.pointer (some ⟨b, 0, none⟩)] (.panicking ({ v := errV e, recovered := false } :: older)) w fun r u' w' =>
      r = .returned (.tuple #[]) ∧ u' = .panicking ({ v := errV e, recovered := true } :: older) ∧ w' = w.setCell ⟨b, 0, none⟩ (.int .i64 e) := by
  refine callsD_of_wpS Tryz.func50 rfl fun c₀ cs hu => ?_
  apply wpS_seq
  apply wpS_region
  simp [wpOpsS, go_sem, recoverD, hu, Tryz.ntmps50, Exit.thenS]
  refine wpS_of_wp ?_
  show Code.wp _ _ _ { tmps := #[.pointer (some ⟨b, 0, none⟩), errV e, errV e, undef, undef, undef, undef], defers := [] } w
  clear hu
  have hta := assert_err e
  go_wp2
  simp [bodyPostS, results, Tryz.results50]
theorem catch_i (b : Nat) (w : World) :
    CallsD Tryz.prog 50 #[.pointer (some ⟨b, 0, none⟩)] .returning w fun r u' w' => r = .returned (.tuple #[]) ∧ u' = .returning ∧ w' = w := by
  refine callsD_of_wpS Tryz.func50 rfl fun c₀ cs hu => ?_
  apply wpS_seq
  apply wpS_region
  simp [wpOpsS, go_sem, recoverD, hu, Tryz.ntmps50, Exit.thenS]
  refine wpS_of_wp ?_
  show Code.wp _ _ _ { tmps := #[.pointer (some ⟨b, 0, none⟩), .nilIface, .nilIface, undef, undef, undef, undef], defers := [] } w
  go_wp2
  cases c₀
  simp_all [bodyPostS, results, Tryz.results50]

/-- whatever is run: what it was left with is told; the variable for it lies behind all that was there -/
theorem caught_c (K : FuncId) (cap : Array Value) (E : Int) (R : World → Prop) (w : World) (he : ∀ w, (callFunc K cap).run Tryz.prog w = .ok (.enter K cap) w)
    (hR : ∀ w1, R w1 → Boxed w1 w.heap.size 28 (.int .i64 0))
    (hrun : Calls Tryz.prog K cap (w.alloc (.cells #[.int .i64 0] 28)) fun e w1 => e = left E ∧ R w1) :
    Calls Tryz.prog 27 #[.func (.func K) #[] cap] w fun e w' => e = .returned (.int .i64 E) ∧ ∃ w1, R w1 ∧ w' = w1.setCell ⟨w.heap.size, 0, none⟩ (.int .i64 E) := by
  have hmf : ∀ (fn : Fn) (first cap : Array Value) (w : World), (Instr.makeFunc fn first cap).run Tryz.prog w = .ok (.func fn first cap) w := fun _ _ _ _ => rfl
  have HR := hideH hR
  have HC := hideH hrun
  clear hR hrun
  go_enter_defers Tryz.func27, Tryz.ntmps27
  go_wp2
  refine HC.out.mono ?_
  rintro e w1 ⟨h1, hr⟩
  have hbx := HR.out w1 hr
  have hc := hideH hbx.cell
  have hz := hideH hbx.frozen
  have HRR := hideH hr
  clear hr he HC
  by_cases hE : E = 0
  · subst hE
    rw [left_ok] at h1
    subst h1
    have hc1 := hc.out
    have hz1 := hz.out
    go_wp2
    clear hc1 hz1
    refine leaves_cons (f := 50) (args := #[.pointer (some ⟨w.heap.size, 0, none⟩)]) (by simp) (by simp [go_sem]) ?_
    refine (catch_i w.heap.size _).mono ?_
    rintro e u' w'' ⟨rfl, rfl, rfl⟩
    have hc2 := hc.out
    simp [Leaves, settle, results, Tryz.results27, go_sem, hc2]
    exact ⟨_, HRR.out, rfl⟩
  · rw [left_no hE] at h1
    subst h1
    go_wp2
    refine leaves_cons (f := 50) (args := #[.pointer (some ⟨w.heap.size, 0, none⟩)]) (by simp) (by simp [go_sem]) ?_
    refine (catch_p w.heap.size 0 E [] _ hc.out hz.out).mono ?_
    rintro e u' w'' ⟨rfl, rfl, rfl⟩
    have hc2 := hc.out
    simp [Leaves, settle, results, Tryz.results27, go_sem, hc2]
    exact ⟨_, HRR.out, rfl⟩
end Go.Proofs.YtdffopkljomipaaGreatDoor

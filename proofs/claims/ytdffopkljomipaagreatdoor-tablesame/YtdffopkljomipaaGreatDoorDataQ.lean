/- The contract of data.Zone. -/
import Derived.Test.YtdffopkljomipaaGreatDoorDataO
import Derived.Test.YtdffopkljomipaaGreatDoorDataP
namespace Go.Proofs.YtdffopkljomipaaGreatDoor
open Go Go.RowKit
set_option linter.unusedVariables false

theorem enters_Zone1 (args : Array Value) : ∀ w, (callFunc 28 args).run Tryz.prog w = .ok (.enter 28 args) w := fun w => enters_of Tryz.func28 (by kernel_rfl) rfl args w
/-- Zone's own literal -/
theorem Zone1_c (D : Dt) (s : ByteArray) (bd bn bz : Nat) (w : World) (hd : w.heap[bd]? = some (.cells #[.slice D.sa D.ns D.sc, .slice D.za D.nz D.zc, .slice D.la D.nl D.lc] 26)) (hn : w.heap[bn]? = some (.cells #[.string s] 9)) (hz : Boxed w bz 3 (.int .i64 0))
    (hE : Env w D) (hF : D.fits) (hs : s.size ≤ maxLen) :
    Calls Tryz.prog 28 #[.pointer (some ⟨bd, 0, none⟩), .pointer (some ⟨bn, 0, none⟩), .pointer (some ⟨bz, 0, none⟩)] w fun e w' => e = left (zonE D s) ∧ But bz w w' ∧ Boxed w' bz 3 (.int .i64 (zonR D s)) := by
  by_cases h0 : chkE D = 0
  · by_cases h1 : (leadK D (D.nl + 1) s).2 = 0
    · have e1 : zonE D s = 0 := by unfold zonE; rw [if_pos h0, h1]
      have e2 : zonR D s = (leadK D (D.nl + 1) s).1 := by unfold zonR; rw [if_pos h0, if_pos h1]
      rw [e1, e2]
      refine (Zone1_ok D s bd bn bz w hd hn hz hE hF hs h0 h1).mono ?_
      rintro e w' ⟨rfl, w2, hw, rfl⟩
      exact ⟨rfl, But.set hw _, (show Boxed w2 bz 3 (.int .i64 0) from heap_on hz hw).set _⟩
    · have e1 : zonE D s = (leadK D (D.nl + 1) s).2 := by unfold zonE; rw [if_pos h0]
      have e2 : zonR D s = 0 := by unfold zonR; rw [if_pos h0, if_neg h1]
      rw [e1, e2, left_no h1]
      refine (Zone1_lead D s bd bn bz w hd hn hz hE hF hs h0 h1).mono ?_
      rintro e w' ⟨rfl, hw⟩
      exact ⟨rfl, But.of hw, heap_on hz hw⟩
  · have e1 : zonE D s = chkE D := by unfold zonE; rw [if_neg h0]
    have e2 : zonR D s = 0 := by unfold zonR; rw [if_neg h0]
    rw [e1, e2, left_no h0]
    refine (Zone1_no D s bd bn bz w hd hn hz hE hF hs h0).mono ?_
    rintro e w' ⟨rfl, hw⟩
    exact ⟨rfl, But.of hw, heap_on hz hw⟩
set_option maxRecDepth 100000 in
theorem DZone_c (D : Dt) (s : ByteArray) (w : World) (hE : Env w D) (hF : D.fits) (hs : s.size ≤ maxLen) : Calls Tryz.prog 15 #[D.v, .string s] w fun e w' => e = .returned (.tuple #[.int .i64 (zonR D s), .int .i64 (zonE D s)]) ∧ Below w.heap.size w w' := by
  have hmf : ∀ (fn : Fn) (first cap : Array Value) (w : World), (Instr.makeFunc fn first cap).run Tryz.prog w = .ok (.func fn first cap) w := fun _ _ _ _ => rfl
  obtain ⟨w0, hw0⟩ : ∃ w0, w0 = ((w.alloc (.cells #[.slice D.sa D.ns D.sc, .slice D.za D.nz D.zc, .slice D.la D.nl D.lc] 26)).alloc (.cells #[.string s] 9)).alloc (.cells #[.int .i64 0] 3) := ⟨_, rfl⟩
  have hsz : w0.heap.size = w.heap.size + 3 := by rw [hw0]; simp
  have hb0 : Below w.heap.size w w0 := by rw [hw0]; exact (((Below.refl _ w).alloc (Nat.le_refl _) _).alloc (by simp) _).alloc (by simp; omega) _
  have hd0 : w0.heap[w.heap.size]? = some (.cells #[.slice D.sa D.ns D.sc, .slice D.za D.nz D.zc, .slice D.la D.nl D.lc] 26) := by
    rw [hw0, Below.heap_alloc _ _ _ (by simp; omega), Below.heap_alloc _ _ _ (by simp)]; exact World.alloc_heap_new _ _
  have hn0 : w0.heap[w.heap.size + 1]? = some (.cells #[.string s] 9) := by
    rw [hw0, Below.heap_alloc _ _ _ (by simp)]
    have := World.alloc_heap_new (w.alloc (.cells #[.slice D.sa D.ns D.sc, .slice D.za D.nz D.zc, .slice D.la D.nl D.lc] 26)) (.cells #[.string s] 9)
    rwa [World.size_alloc] at this
  have hz0 : Boxed w0 (w.heap.size + 2) 3 (.int .i64 0) := by
    have := Boxed.new ((w.alloc (.cells #[.slice D.sa D.ns D.sc, .slice D.za D.nz D.zc, .slice D.la D.nl D.lc] 26)).alloc (.cells #[.string s] 9)) 3 (.int .i64 0)
    rw [World.size_alloc, World.size_alloc] at this
    rw [hw0]; exact this
  have hb1 : Below w0.heap.size w0 (w0.alloc (.cells #[.int .i64 0] 28)) := (Below.refl _ w0).alloc (Nat.le_refl _) _
  have E1 := hE.on (bthen hb0 hb1)
  have hcaught := hideH (caught_c 28 #[.pointer (some ⟨w.heap.size, 0, none⟩), .pointer (some ⟨w.heap.size + 1, 0, none⟩), .pointer (some ⟨w.heap.size + 2, 0, none⟩)] (zonE D s)
    (fun w1 => But (w.heap.size + 2) (w0.alloc (.cells #[.int .i64 0] 28)) w1 ∧ Boxed w1 (w.heap.size + 2) 3 (.int .i64 (zonR D s))) w0 (enters_Zone1 _)
    (fun w1 h => (h.1.block _ (by simp) (by omega)).trans (Boxed.new w0 28 (.int .i64 0)))
    (Zone1_c D s _ _ _ _ (heap_on hd0 hb1) (heap_on hn0 hb1) (heap_on hz0 hb1) E1 hF hs))
  have HW0 := hideH hw0
  have HB0 := hideH hb0
  clear hd0 hn0 hz0 hb1 E1 hE hF hs hb0
  subst hw0
  go_enter Tryz.func15, Tryz.ntmps15
  go_wp2_with fail
  refine hcaught.out.mono ?_
  rintro e w2 ⟨rfl, w1, ⟨hbut, hbx⟩, rfl⟩
  have hB1 : Below w.heap.size w w1 := (HB0.out.trans (((Below.refl _ _).alloc (Nat.le_refl _) (.cells #[.int .i64 0] 28)).mono HB0.out.size)).trans ⟨hbut.os, hbut.tape, hbut.output, hbut.size, fun k hk => hbut.block k (by simp; omega) (by omega)⟩
  rw [hsz]
  have hB2 := hB1.setCell (p := ⟨w.heap.size + 3, 0, none⟩) (Nat.le_add_right _ _) (.int .i64 (zonE D s))
  have hc2 := (show Boxed (w1.setCell ⟨w.heap.size + 3, 0, none⟩ (.int .i64 (zonE D s))) (w.heap.size + 2) 3 (.int .i64 (zonR D s)) from (Below.heap_setCell _ ⟨w.heap.size + 3, 0, none⟩ _ _ (by simp)).trans hbx).cell
  generalize w1.setCell ⟨w.heap.size + 3, 0, none⟩ (.int .i64 (zonE D s)) = w3 at hB2 hc2 ⊢
  have HB3 := hideH hB2
  clear hB1 hB2 hbut hbx hcaught HW0 HB0 hsz
  go_wp2_with fail
  go_ret2
  exact ⟨rfl, HB3.out⟩
end Go.Proofs.YtdffopkljomipaaGreatDoor

/- The document's own SameTurns, of turns that are the same. -/
import Derived.Test.YtdffopkljomipaaGreatDoorTableC
import Derived.Deep.QuietTactic
import Derived.BigQuiet
namespace Go.Proofs.YtdffopkljomipaaGreatDoor
open Go Go.RowKit
set_option linter.unusedVariables false

set_option maxRecDepth 100000 in
set_option maxHeartbeats 8000000 in
theorem SameTurns_c (a1 a2 : Option Addr) (n c1 c2 : Nat) (ts : Nat → Tu) (w : World) (hn : n ≤ maxLen) (h1 : TuAt w a1 n ts) (h2 : TuAt w a2 n ts) :
    Calls Tryz.prog 12 #[.slice a1 n c1, .slice a2 n c2] w fun e w' => e = .returned (.bool true) ∧ Below w.heap.size w w' := by
  have HA := hideH h1
  have HB := hideH h2
  unfold maxLen at hn
  clear h1 h2
  go_enter Tryz.func12, Tryz.ntmps12
  go_wp2_with fail
  go_loopw [5] (fun x5 v => ∃ k : Nat, k ≤ n ∧ x5 = .int .i64 k ∧ Hid (Below w.heap.size w v)) (fun x5 _ => n - (intOf x5).toNat)
  case atStart => exact ⟨0, Nat.zero_le _, rfl, Below.refl _ _⟩
  case round =>
    obtain ⟨k, hk, rfl, HW⟩ := hrel
    by_cases hlt : k < n
    · rcases HA.out.on HW.out with h0 | ⟨b, off, hsa, hcs⟩
      · omega
      rcases HB.out.on HW.out with h0 | ⟨b2, off2, hsb, hcs2⟩
      · omega
      obtain ⟨d0, d1, d2, d3⟩ := hcs k hlt
      obtain ⟨e0, e1, e2, e3⟩ := hcs2 k hlt
      have hk0 : decide ((k : Int) < 0) = false := by simp
      have hkn : decide (n ≤ k) = false := by simp; omega
      have hki : (k : Int) < (n : Int) := by omega
      clear hcs hcs2
      go_wp2_with fail
      go_quiet (fail)
      go_wp2_with fail
      try simp only [← hsa, ← hsb]
      go_roundw
      case rel => exact ⟨k + 1, by omega, by go_num, below_drewN HW.out _⟩
      case measure => simp [intOf]; omega
    · obtain rfl : k = n := by omega
      go_wp2_with fail
      go_ret
      exact ⟨rfl, HW.out⟩
end Go.Proofs.YtdffopkljomipaaGreatDoor

/- The first text that is not empty. -/
import Derived.Test.YtbpdbggojgijiaaGreatDoorSourceA
namespace Go.Proofs.YtbpdbggojgijiaaGreatDoor.Src
open Go Go.RowKit
set_option linter.unusedVariables false

set_option maxHeartbeats 4000000 in
set_option maxRecDepth 100000 in
theorem orS_c (a : ByteArray) (g c : Nat) (w : World) (h0 : w.cell? ⟨g, 0, none⟩ = some (.string a)) (h1 : w.cell? ⟨g, 1, none⟩ = some (.string ⟨#[45]⟩)) :
    Calls Tryz.prog 34 #[.slice (some ⟨g, 0, none⟩) 2 c] w fun e w' => e = .returned (.string (if a.data.toList = [] then ⟨#[45]⟩ else a)) ∧ w' = w := by
  have o1 : ((⟨#[45]⟩ : ByteArray).toList == (⟨#[]⟩ : ByteArray).toList) = false := (Lib.bytes_beq_false_iff _ _).2 (by decide)
  by_cases ha : a.data.toList = []
  · have : a = ⟨#[]⟩ := by
      cases a with
      | mk x =>
        congr 1
        rw [← Array.toList_inj, ha]
    subst this
    clear ha
    have o2 : ((⟨#[]⟩ : ByteArray).toList == (⟨#[]⟩ : ByteArray).toList) = true := beq_self_eq_true _
    go_enter Tryz.func34, Tryz.ntmps34
    go_wp2_with fail
    go_loop [8] (fun x8 => x8 = .int .i64 0 ∨ x8 = .int .i64 1) (fun x8 => 2 - (intOf x8).toNat)
    case atStart => exact .inl rfl
    case round =>
      rcases hrel with rfl | rfl
      · go_wp2_with fail
        go_round
        case rel => exact .inr (by go_num)
        case measure => simp [intOf]
      · go_wp2_with fail
        go_ret
        exact ⟨rfl, rfl⟩
  · have o2 : (a.toList == (⟨#[]⟩ : ByteArray).toList) = false := (Lib.bytes_beq_false_iff _ _).2 (fun e => ha (by rw [e]))
    have o3 : a.toList.isEmpty = false := by
      cases e : a.toList with
      | nil =>
        rw [e] at o2
        have e0 : (⟨#[]⟩ : ByteArray).toList = [] := by simp
        rw [e0] at o2
        cases o2
      | cons x l => rfl
    rw [if_neg ha]
    clear ha
    go_enter Tryz.func34, Tryz.ntmps34
    go_wp2_with fail
    go_loop [8] (fun x8 => x8 = .int .i64 0) (fun x8 => 2 - (intOf x8).toNat)
    case atStart => rfl
    case round =>
      subst hrel
      go_wp2_with fail
      go_ret
      exact ⟨rfl, rfl⟩
end Go.Proofs.YtbpdbggojgijiaaGreatDoor.Src

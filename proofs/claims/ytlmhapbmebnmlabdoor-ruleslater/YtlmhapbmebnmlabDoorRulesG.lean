/- Contracts of the document's own answers on rules: letters, CheckRule, begins, AtOf. -/
import Derived.Test.YtlmhapbmebnmlabDoorRulesF
namespace Go.Proofs.YtlmhapbmebnmlabDoor
open Go Go.RowKit
set_option linter.unusedVariables false

set_option maxHeartbeats 1000000 in
theorem letters_c (s : ByteArray) (w : World) (hs : s.size ≤ maxLen) : Calls Tryd.prog 28 #[.string s] w fun e w' => e = .returned (.bool (allLet s.data.toList)) ∧ w' = w := by
  unfold maxLen at hs
  go_enter Tryd.func28, Tryd.ntmps28
  go_wp2_with fail
  go_loop [3] (fun i => ∃ k : Nat, k ≤ s.size ∧ i = .int .i64 k ∧ Hid (allLet (s.data.toList.take k) = true)) (fun i => s.size - (intOf i).toNat)
  case atStart => exact ⟨0, Nat.zero_le _, rfl, rfl⟩
  case round =>
    obtain ⟨k, hk, rfl, HA⟩ := hrel
    by_cases hlt : k < s.size
    · have hb : (s[k].toNat : Int) < 65 ∨ (65 ≤ (s[k].toNat : Int) ∧ (s[k].toNat : Int) ≤ 90) ∨ (90 < (s[k].toNat : Int) ∧ (s[k].toNat : Int) < 97) ∨ (97 ≤ (s[k].toNat : Int) ∧ (s[k].toNat : Int) ≤ 122) ∨ (122 < (s[k].toNat : Int)) := by omega
      have hgood : ltrB (s[k].toNat : Int) = true → Hid (allLet (s.data.toList.take (k + 1)) = true) := fun h => all_snoc s k hlt HA.out h
      have hbad : ltrB (s[k].toNat : Int) = false → Hid (allLet s.data.toList = false) := fun h => all_bad s k hlt h
      rcases hb with h | ⟨h, h'⟩ | ⟨h, h'⟩ | ⟨h, h'⟩ | h
      · have HB := hbad (by unfold ltrB; simp; omega)
        clear hgood hbad
        go_wp2_with fail
        go_ret
        exact ⟨ret_bool HB.out.symm, rfl⟩
      · have HG := hgood (by unfold ltrB; simp; omega)
        clear hgood hbad
        go_wp2_with fail
        go_round
        case rel => exact ⟨k + 1, by omega, by go_num, HG⟩
        case measure => simp [intOf]; omega
      · have HB := hbad (by unfold ltrB; simp; omega)
        have d1 : decide ((s[k].toNat : Int) ≤ 90) = false := by simp; omega
        clear hgood hbad
        go_wp2_with fail
        go_ret
        exact ⟨ret_bool HB.out.symm, rfl⟩
      · have HG := hgood (by unfold ltrB; simp; omega)
        clear hgood hbad
        go_wp2_with fail
        go_round
        case rel => exact ⟨k + 1, by omega, by go_num, HG⟩
        case measure => simp [intOf]; omega
      · have HB := hbad (by unfold ltrB; simp; omega)
        have d1 : decide ((s[k].toNat : Int) ≤ 90) = false := by simp; omega
        have d2 : decide ((s[k].toNat : Int) ≤ 122) = false := by simp; omega
        clear hgood hbad
        go_wp2_with fail
        go_ret
        exact ⟨ret_bool HB.out.symm, rfl⟩
    · go_wp2_with fail
      go_ret
      exact ⟨ret_bool (by have := HA.out; rw [List.take_of_length_le (by simp; omega)] at this; exact this.symm), rfl⟩

theorem bnd_cases (r : Rl) : (bnd r = true ∧ Cal.yrB r.f = true ∧ Cal.yrB r.t = true ∧ r.f ≤ r.t ∧ Cal.moB r.m = true ∧ inB r.a 0 86400 = true ∧ inB r.sv 0 7200 = true) ∨
    (bnd r = false ∧ (Cal.yrB r.f = false ∨ (Cal.yrB r.f = true ∧ (Cal.yrB r.t = false ∨ (Cal.yrB r.t = true ∧ (r.t < r.f ∨ (r.f ≤ r.t ∧ (Cal.moB r.m = false ∨ (Cal.moB r.m = true ∧ (inB r.a 0 86400 = false ∨ (inB r.a 0 86400 = true ∧ inB r.sv 0 7200 = false))))))))))) := by
  cases h1 : Cal.yrB r.f
  · exact .inr ⟨bnd_no (by have := yr_not h1; omega), .inl rfl⟩
  · cases h2 : Cal.yrB r.t
    · exact .inr ⟨bnd_no (by have := yr_not h2; have := yr_of h1; omega), .inr ⟨rfl, .inl rfl⟩⟩
    · by_cases h3 : r.t < r.f
      · exact .inr ⟨bnd_no (by omega), .inr ⟨rfl, .inr ⟨rfl, .inl h3⟩⟩⟩
      · cases h4 : Cal.moB r.m
        · exact .inr ⟨bnd_no (by have := mo_not h4; omega), .inr ⟨rfl, .inr ⟨rfl, .inr ⟨by omega, .inl rfl⟩⟩⟩⟩
        · rcases in_cases r.a 0 86400 with ⟨h5, h5'⟩ | ⟨h5, h5'⟩
          · rcases in_cases r.sv 0 7200 with ⟨h6, h6'⟩ | ⟨h6, h6'⟩
            · exact .inl ⟨bnd_mk (by have := yr_of h1; have := yr_of h2; have := mo_of h4; omega), rfl, rfl, by omega, rfl, h5, h6⟩
            · exact .inr ⟨bnd_no (by omega), .inr ⟨rfl, .inr ⟨rfl, .inr ⟨by omega, .inr ⟨rfl, .inr ⟨h5, h6⟩⟩⟩⟩⟩⟩
          · exact .inr ⟨bnd_no (by omega), .inr ⟨rfl, .inr ⟨rfl, .inr ⟨by omega, .inr ⟨rfl, .inl h5⟩⟩⟩⟩⟩

set_option maxHeartbeats 8000000 in
theorem CheckRule_no (r : Rl) (w : World) (hb : bnd r = false) : Calls Tryd.prog 11 #[r.v] w fun e w' => e = .returned (.int .i64 3) ∧ Below w.heap.size w w' := by
  rcases bnd_cases r with ⟨h, _⟩ | ⟨_, h⟩
  · rw [hb] at h; cases h
  · clear hb
    rcases h with h1 | ⟨h1, h2 | ⟨h2, h3 | ⟨h3, h4 | ⟨h4, h5 | ⟨h5, h6⟩⟩⟩⟩⟩
    all_goals
      go_enter Tryd.func11, Tryd.ntmps11
      go_wp2_with (first
        | (go_at_call 25; refine (IsYear_c _ _).mono ?_; rintro e w' ⟨rfl, rfl⟩)
        | (go_at_call 26; refine (RisMonth_c _ _).mono ?_; rintro e w' ⟨rfl, rfl⟩)
        | (go_at_call 17; refine (within_c _ _ _ _).mono ?_; rintro e w' ⟨rfl, rfl⟩))
      go_ret
      exact ⟨rfl, (Below.refl _ _).alloc (Nat.le_refl _) _⟩
end Go.Proofs.YtlmhapbmebnmlabDoor

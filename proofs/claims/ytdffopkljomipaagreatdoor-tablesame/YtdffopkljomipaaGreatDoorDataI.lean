/- Contracts of package data: refuseRules, refuseLinks. -/
import Derived.Test.YtdffopkljomipaaGreatDoorDataH
namespace Go.Proofs.YtdffopkljomipaaGreatDoor
open Go Go.RowKit Go.Maps
set_option linter.unusedVariables false

/-- the first of n numbers that is not 0 -/
def fstE (f : Nat → Int) : Nat → Int
  | 0 => 0
  | k + 1 => if fstE f k = 0 then f k else fstE f k
theorem fstE_zero {f : Nat → Int} : ∀ {k : Nat}, (∀ i, i < k → f i = 0) → fstE f k = 0
  | 0, _ => rfl
  | k + 1, h => by unfold fstE; rw [if_pos (fstE_zero fun i hi => h i (by omega))]; exact h k (by omega)
theorem fstE_at {f : Nat → Int} : ∀ {n k : Nat}, (∀ i, i < k → f i = 0) → f k ≠ 0 → k < n → fstE f n = f k
  | 0, k, _, _, h => by omega
  | n + 1, k, h0, h1, h => by
    unfold fstE
    rcases Nat.lt_or_ge k n with h2 | h2
    · rw [fstE_at h0 h1 h2, if_neg h1]
    · obtain rfl : k = n := by omega
      rw [if_pos (fstE_zero h0)]
theorem fstE_all {f : Nat → Int} : ∀ {n : Nat}, fstE f n = 0 → ∀ i, i < n → f i = 0
  | 0, _, i, h => by omega
  | n + 1, h, i, hi => by
    unfold fstE at h
    by_cases h2 : fstE f n = 0
    · rw [if_pos h2] at h
      rcases Nat.lt_or_ge i n with h3 | h3
      · exact fstE_all h2 i h3
      · obtain rfl : i = n := by omega
        exact h
    · rw [if_neg h2] at h; exact absurd h h2
/-- rules.Check's first error -/
def setE (s : St) : Int := fstE (fun i => rchk (s.rs i)) s.n
def rulE (D : Dt) : Int := fstE (fun j => setE (D.ss j)) D.ns

set_option maxRecDepth 100000 in
set_option maxHeartbeats 4000000 in
theorem refuseRules_c (D : Dt) (w : World) (hL : Laid w) (hD : DAt w D) (hF : D.fits) : Calls Tryz.prog 63 #[.slice D.sa D.ns D.sc] w fun e w' => e = left (rulE D) ∧ Below w.heap.size w w' := by
  generalize hV : left (rulE D) = V
  have HV := hideH hV
  have HL := hideH hL
  have HD := hideH hD
  have HF := hideH hF
  have n1 := hF.ns
  unfold maxLen at n1
  clear hV hL hD hF
  go_enter Tryz.func63, Tryz.ntmps63
  go_wp2_with fail
  go_loopw [9] (fun x9 wr => ∃ j : Nat, j ≤ D.ns ∧ x9 = .int .i64 j ∧ Hid (Below w.heap.size w wr) ∧ Hid (∀ i, i < j → setE (D.ss i) = 0)) (fun x9 _ => D.ns - (intOf x9).toNat)
  case atStart => exact ⟨0, Nat.zero_le _, rfl, Below.refl _ _, fun i hi => by omega⟩
  case round =>
    obtain ⟨j, hj, rfl, HW, HA⟩ := hrel
    by_cases hlt : j < D.ns
    · have nj := HF.out.sn j hlt
      unfold maxLen at nj
      rcases (HD.out.on HW.out).sets with h0 | ⟨b, off, hsa, hcs⟩
      · omega
      obtain ⟨c0, c1⟩ := hcs j hlt
      clear hcs
      go_wp2_with fail
      clear c0 c1
      simp only [← hsa]
      clear hsa
      have hb := hideH ((Below.refl _ wr).alloc (Nat.le_refl _) (.cells #[.string (D.ss j).nm, (D.ss j).sl] 53))
      have HW1 := hideH (bthen HW.out hb.out)
      clear hb
      go_loopw [16] (fun x16 v => ∃ i : Nat, i ≤ (D.ss j).n ∧ x16 = .int .i64 i ∧ Hid (Below w.heap.size w v) ∧ Hid (∀ k, k < i → rchk ((D.ss j).rs k) = 0)) (fun x16 _ => (D.ss j).n - (intOf x16).toNat)
      case atStart => exact ⟨0, Nat.zero_le _, rfl, HW1, fun i hi => by omega⟩
      case round =>
        obtain ⟨i, hi, rfl, HW2, HB⟩ := hrel
        by_cases hli : i < (D.ss j).n
        · rcases (HD.out.on HW2.out).rules j hlt with h0 | ⟨b2, off2, hra, hcs⟩
          · omega
          obtain ⟨c0, c1, c2, c3, c4, c5, c6, c7, c8⟩ := hcs i hli
          clear hcs
          have hb := hideH ((Below.refl _ wr).alloc (Nat.le_refl _) (.cells ((D.ss j).rs i).cs 57))
          have HW3 := hideH (bthen HW2.out hb.out)
          have L3 := hideH (HL.out.on HW3.out)
          clear hb
          rcases beq_cases (rchk ((D.ss j).rs i)) 0 with ⟨q1, q2⟩ | ⟨q1, q2⟩
          · have HB2 : Hid (∀ k, k < i + 1 → rchk ((D.ss j).rs k) = 0) := fun k hk => by
              rcases Nat.lt_or_ge k i with h | h
              · exact HB.out k h
              · obtain rfl : k = i := by omega
                exact q2
            go_wp2_with (first
              | (go_at_call 79; refine (RCheck_c ((D.ss j).rs i) _ L3.out (HF.out.lt j hlt i hli)).mono ?_; rintro e w4 ⟨rfl, hw4⟩; have HW4 := hideH (bthen HW3.out hw4); clear hw4)
              | (go_at_call 51; refine (refuse_f (by first | rfl | simp [q2]) _ _).mono ?_; rintro x w4 ⟨rfl, rfl⟩))
            simp only [← hra]
            go_roundw
            case rel => exact ⟨i + 1, by omega, by go_num, HW4, HB2⟩
            case measure => simp [intOf]; omega
          · have HX : Hid (V = .panicked [{ v := errV (rchk ((D.ss j).rs i)), recovered := false }]) := by
              show V = _
              have e1 : setE (D.ss j) = rchk ((D.ss j).rs i) := fstE_at (f := fun i => rchk ((D.ss j).rs i)) HB.out q2 hli
              have e2 : rulE D = setE (D.ss j) := fstE_at (f := fun j => setE (D.ss j)) HA.out (by rw [e1]; exact q2) hlt
              rw [← HV.out, e2, e1, left_no q2]
            go_wp2_with (first
              | (go_at_call 79; refine (RCheck_c ((D.ss j).rs i) _ L3.out (HF.out.lt j hlt i hli)).mono ?_; rintro e w4 ⟨rfl, hw4⟩; have HW4 := hideH (bthen HW3.out hw4); clear hw4)
              | (go_at_call 51; refine (refuse_t (by first | rfl | simp [q2]) _ _).mono ?_; rintro x w4 ⟨rfl, rfl⟩))
            exact ⟨rfl, HX.out.symm, HW4.out⟩
        · have HA2 : Hid (∀ i, i < j + 1 → setE (D.ss i) = 0) := fun k hk => by
            rcases Nat.lt_or_ge k j with h | h
            · exact HA.out k h
            · obtain rfl : k = j := by omega
              exact fstE_zero (f := fun i => rchk ((D.ss k).rs i)) (fun m hm => HB.out m (by omega))
          go_wp2_with fail
          go_roundw
          case rel => exact ⟨j + 1, by omega, by go_num, HW2, HA2⟩
          case measure => simp [intOf]; omega
    · have HX : Hid (V = .returned (.tuple #[])) := by
        show V = _
        rw [← HV.out, show rulE D = 0 from fstE_zero (f := fun j => setE (D.ss j)) (fun i hi => HA.out i (by omega))]
        rfl
      go_wp2_with fail
      go_end0
      exact ⟨HX.out.symm, HW.out⟩
end Go.Proofs.YtdffopkljomipaaGreatDoor

/- What Show and Read of package offs answer, in plain Lean; what must be in any case. -/
import Derived.Test.YtfjjdicgekgbeaaGreatDoorOffsAAll
namespace Go.Proofs.YtfjjdicgekgbeaaGreatDoor
open Go Go.RowKit
set_option linter.unusedVariables false

theorem gs_show {st n : Int} (h : Ofs.isSt st = true) (ho : Ofs.offB n = true) : gs st (Ofs.sh st n) = n := by
  obtain ⟨v, h1, h2, h3, h4⟩ := Ofs.guess_show h ho
  unfold gs
  rw [h1]
  unfold gW
  have e1 : -100 < v.tmod 100 ∧ v.tmod 100 < 100 := by
    have a := Int.tmod_lt_of_pos v (show (0 : Int) < 100 by omega)
    have b := Int.lt_tmod_of_pos v (show (0 : Int) < 100 by omega)
    omega
  have hr : -57600 ≤ n ∧ n ≤ 57600 := by unfold Ofs.offB at ho; simp only [decide_eq_true_eq] at ho; omega
  generalize v.tmod 100 = b at *
  generalize v.tdiv 100 = a at *
  unfold wrap64
  omega
theorem rd_show {st n : Int} (h : Ofs.isSt st = true) (ho : Ofs.offB n = true) : rdN st (Ofs.sh st n) = n ∧ rdE st (Ofs.sh st n) = 0 := by
  have hg := gs_show h ho
  unfold rdN rdE
  rw [hg, if_pos ⟨h, ho, rfl⟩, if_pos h, if_pos ⟨ho, rfl⟩]
  exact ⟨rfl, rfl⟩
theorem rd_ok {st : Int} {s : List UInt8} (h : rdE st s = 0) : Ofs.isSt st = true ∧ Ofs.offB (rdN st s) = true ∧ Ofs.sh st (rdN st s) = s := by
  unfold rdE at h
  by_cases h1 : Ofs.isSt st = true
  · rw [if_pos h1] at h
    by_cases h2 : Ofs.offB (gs st s) = true ∧ Ofs.sh st (gs st s) = s
    · have : rdN st s = gs st s := by unfold rdN; rw [if_pos ⟨h1, h2⟩]
      rw [this]; exact ⟨h1, h2⟩
    · rw [if_neg h2] at h; cases h
  · rw [if_neg h1] at h; cases h
theorem rd_no {st : Int} {s : List UInt8} (h : Ofs.isSt st = true) (hn : ∀ n, Ofs.offB n = true → Ofs.sh st n ≠ s) : rdN st s = 0 ∧ rdE st s = 1 := by
  unfold rdN rdE
  rw [if_neg (fun x => hn _ x.2.1 x.2.2), if_pos h, if_neg (fun x => hn _ x.1 x.2)]
  exact ⟨rfl, rfl⟩
theorem rd_kind {st : Int} {s : List UInt8} (h : Ofs.isSt st = false) : rdN st s = 0 ∧ rdE st s = 8 := by
  unfold rdN rdE
  simp [h]
theorem shw_ok {st n : Int} (h : shwE st n = 0) : Ofs.isSt st = true ∧ Ofs.offB n = true ∧ shwT st n = Ofs.sh st n := by
  unfold shwE at h
  by_cases h1 : Ofs.isSt st = true
  · rw [if_pos h1] at h
    by_cases h2 : Ofs.offB n = true
    · exact ⟨h1, h2, by unfold shwT; rw [if_pos ⟨h1, h2⟩]⟩
    · rw [if_neg h2] at h; cases h
  · rw [if_neg h1] at h; cases h
theorem ob1 : shwT 1 (-5400) = [45, 48, 49, 51, 48] ∧ shwE 1 (-5400) = 0 := by decide +kernel
theorem ob2 : shwT 3 7200 = [71, 77, 84, 43, 50] ∧ shwE 3 7200 = 0 := by decide +kernel
theorem ob3 : shwT 4 (-1800) = [71, 77, 84, 45, 48, 48, 58, 51, 48] ∧ shwE 4 (-1800) = 0 := by decide +kernel
theorem ob4 : shwT 2 0 = [90] ∧ shwE 2 0 = 0 := by decide +kernel
theorem ob5 : rdN 3 [71, 77, 84, 45, 48, 58, 51, 48] = -1800 ∧ rdE 3 [71, 77, 84, 45, 48, 58, 51, 48] = 0 := by decide +kernel
theorem ob6 : rdN 3 [71, 77, 84, 43, 48] = 0 ∧ rdE 3 [71, 77, 84, 43, 48] = 1 := by decide +kernel
end Go.Proofs.YtfjjdicgekgbeaaGreatDoor

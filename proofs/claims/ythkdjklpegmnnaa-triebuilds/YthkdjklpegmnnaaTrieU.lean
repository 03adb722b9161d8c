/- The document's own SameTries, of tries that are the same. -/
import Derived.Test.YthkdjklpegmnnaaTrieS
import Derived.Deep.QuietTactic
import Derived.BigQuiet
namespace Go.Proofs.Ythkdjklpegmnnaa.Tri
open Go Go.RowKit Go.Maps
set_option linter.unusedVariables false

set_option maxRecDepth 100000 in
set_option maxHeartbeats 8000000 in
theorem SameTries_c (a1 a2 : Option Addr) (c1 c2 : Nat) (t : List Nd) (w : World) (hf : fitT t) (h1 : TrL w a1 t) (h2 : TrL w a2 t) :
    Calls Try.prog 14 #[.slice a1 t.length c1, .slice a2 t.length c2] w fun e w' => e = .returned (.bool true) ∧ Below w.heap.size w w' := by
  have HA := hideH h1
  have HB := hideH h2
  have HF := hideH hf
  have hl := hf.len
  unfold maxLen at hl
  obtain ⟨N, hN⟩ : ∃ N, N = t.length := ⟨_, rfl⟩
  have HN := hideH hN
  rw [← hN] at hl ⊢
  clear hN h1 h2 hf
  go_enter Try.func14, Try.ntmps14
  go_wp2_with fail
  go_loopw [5] (fun x5 v => ∃ k : Nat, k ≤ N ∧ x5 = .int .i64 k ∧ Hid (Below w.heap.size w v)) (fun x5 _ => N - (intOf x5).toNat)
  case atStart => exact ⟨0, Nat.zero_le _, rfl, Below.refl _ _⟩
  case round =>
    obtain ⟨n, hk, rfl, HW⟩ := hrel
    by_cases hlt : n < N
    · rcases HA.out.on HW.out with h0 | ⟨b, off, hsa, hcs⟩
      · have := HN.out; omega
      rcases HB.out.on HW.out with h0 | ⟨b2, off2, hsb, hcs2⟩
      · have := HN.out; omega
      obtain ⟨ea, ec, d0, d1, d2⟩ := hcs n (by have := HN.out; omega)
      obtain ⟨eb, ed, e0, e1, e2⟩ := hcs2 n (by have := HN.out; omega)
      have hfe := HF.out.es n (by have := HN.out; omega)
      unfold maxLen at hfe
      have D2 := hideH d2
      have E2 := hideH e2
      obtain ⟨m, hm⟩ : ∃ m, m = (nod t n).es.length := ⟨_, rfl⟩
      obtain ⟨wd, hwd⟩ : ∃ wd, wd = (nod t n).wd := ⟨_, rfl⟩
      rw [← hm] at d0 e0 hfe
      rw [← hwd] at d1 e1
      have HM := hideH hm
      have hk0 : decide ((n : Int) < 0) = false := by simp
      have hkn : decide (N ≤ n) = false := by simp; omega
      have hki : (n : Int) < (N : Int) := by omega
      clear hcs hcs2 d2 e2 hm hwd
      obtain ⟨wo, hwo⟩ : ∃ wo, wo = wr := ⟨_, rfl⟩
      rw [← hwo] at d0 d1 e0 e1 HW D2 E2
      simp only [← hwo]
      clear hwo
      go_wp2_with fail
      go_quiet (fail)
      go_wp2_with fail
      go_loopw [6] (fun x6 v => ∃ k : Nat, k ≤ m ∧ x6 = .int .i64 k ∧ Hid (Below wo.heap.size wo v)) (fun x6 _ => m - (intOf x6).toNat)
      case atStart => exact ⟨0, Nat.zero_le _, rfl, below_drewN (Below.refl _ _) _⟩
      case round =>
        obtain ⟨k, hkm, rfl, HV⟩ := hrel
        have f0 := cell_on d0 HV.out
        have g0 := cell_on e0 HV.out
        by_cases hkl : k < m
        · rcases D2.out.on HV.out with h0 | ⟨ba, oa, hea, hca⟩
          · have := HM.out; omega
          rcases E2.out.on HV.out with h0 | ⟨bb, ob, heb, hcb⟩
          · have := HM.out; omega
          obtain ⟨p0, p1⟩ := hca k (by have := HM.out; omega)
          obtain ⟨q0, q1⟩ := hcb k (by have := HM.out; omega)
          clear hca hcb
          have hkj : (k : Int) < (m : Int) := by omega
          have hkj0 : decide ((k : Int) < 0) = false := by simp
          have hkjn : decide (m ≤ k) = false := by simp; omega
          generalize eC (nod t n).es k = cc at *
          generalize eT (nod t n).es k = tt at *
          go_wp2_with fail
          go_quiet (fail)
          go_wp2_with fail
          try simp only [← hsa, ← hsb, ← hea, ← heb]
          go_roundw
          case rel => exact ⟨k + 1, by omega, by go_num, below_drewN HV.out _⟩
          case measure => simp [intOf]; omega
        · have hkj : ¬ ((k : Int) < (m : Int)) := by omega
          go_wp2_with fail
          try simp only [← hsa, ← hsb]
          go_roundw
          case rel => exact ⟨n + 1, by omega, by go_num, bthen HW.out HV.out⟩
          case measure => simp [intOf]; omega
    · obtain rfl : n = N := by omega
      go_wp2_with fail
      go_ret
      exact ⟨rfl, HW.out⟩
end Go.Proofs.Ythkdjklpegmnnaa.Tri

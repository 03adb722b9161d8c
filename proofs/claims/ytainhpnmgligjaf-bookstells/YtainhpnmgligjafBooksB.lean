/- Contracts of package books: rises, sameLocale, parentsAhead, Check. -/
import Derived.Test.YtainhpnmgligjafBooksA
import Derived.Laws.Cover1
namespace Go.Proofs.Ytainhpnmgligjaf
open Go Go.RowKit
set_option linter.unusedVariables false

theorem wrap_nn' {n : Int} (h0 : 0 ≤ n) (h1 : n < 9223372036854775808) : IntKind.i64.wrap n = n := by
  have h64 : IntKind.i64.bits = 64 := rfl
  have hsg : IntKind.i64.signed = true := rfl
  unfold IntKind.wrap
  rw [h64, hsg]
  simp only [Bool.true_and]
  rw [Int.emod_eq_of_lt h0 (by omega)]
  simp
  omega
theorem less_tri : ∀ a b : List UInt8, (Op.bytesLess a b || a == b) = !Op.bytesLess b a
  | [], [] => rfl
  | [], _ :: _ => rfl
  | _ :: _, [] => rfl
  | x :: a, y :: b => by
    have ih := less_tri a b
    simp only [Op.bytesLess]
    by_cases h1 : x < y
    · have h2 : ¬ y < x := fun h => UInt8.lt_irrefl _ (UInt8.lt_trans h1 h)
      have h3 : (y == x) = false := beq_eq_false_iff_ne.2 (fun e => by subst e; exact UInt8.lt_irrefl _ h1)
      simp [h1, h2, h3]
    · by_cases h2 : x = y
      · subst h2
        simp only [UInt8.lt_irrefl, decide_false, Bool.false_or, beq_self_eq_true, Bool.true_and]
        rw [← ih]
        simp
      · have h3 : y < x := by
          rcases UInt8.lt_or_lt_of_ne h2 with h | h
          · exact absurd h h1
          · exact h
        have h4 : (x == y) = false := beq_eq_false_iff_ne.2 h2
        simp [h1, h3, h4]
abbrev ltB (a b : ByteArray) : Bool := Op.bytesLess a.toList b.toList
abbrev rsOK (x : Bk) : Prop := ∀ i, i < x.n - 1 → ltB (x.ks i) (x.ks (i + 1)) = true
def rsB (x : Bk) : Bool := decide (rsOK x)
set_option maxHeartbeats 4000000 in
theorem rises_c (x : Bk) (w : World) (hf : x.fits) (hP : x.row w) : Calls Try.prog 21 #[x.v] w fun e w' => e = .returned (.bool (rsB x)) ∧ Below w.heap.size w w' := by
  have HP := hideH hP
  have HF := hideH hf
  have hn := hf.n
  unfold maxLen at hn
  clear hP hf
  generalize hV : rsB x = V
  have HV := hideH hV
  clear hV
  have hb := hideH ((Below.refl _ w).alloc (Nat.le_refl _) x.cs)
  have hc : Hid ((w.alloc x.cs).cell? ⟨w.heap.size, 2, none⟩ = some (.slice x.a x.n x.c)) := by show _ = _; simp
  go_enter Try.func21, Try.ntmps21
  go_wp2_with fail
  go_loopw [3] (fun x3 wr => ∃ j : Nat, 1 ≤ j ∧ (j ≤ x.n ∨ j = 1) ∧ x3 = .int .i64 j ∧ Hid (wr.cell? ⟨w.heap.size, 2, none⟩ = some (.slice x.a x.n x.c)) ∧ Hid (Below w.heap.size w wr) ∧ Hid (∀ i, i + 1 < j → ltB (x.ks i) (x.ks (i + 1)) = true)) (fun x3 _ => x.n - (intOf x3).toNat)
  case atStart => exact ⟨1, by omega, .inr rfl, rfl, hc, hb, fun i hi => by omega⟩
  case round =>
    obtain ⟨j, hj1, hj, rfl, HC, HW, HA⟩ := hrel
    have c2 := HC.out
    by_cases hlt : j < x.n
    · rcases HP.out.on HW.out with h0 | ⟨b, off, hsa, hcs⟩
      · omega
      have d1 := (hcs j hlt).1
      obtain ⟨m, hm⟩ : ∃ m : Nat, j = m + 1 := ⟨j - 1, by omega⟩
      have d0 := (hcs m (by omega)).1
      have hwm : IntKind.i64.wrap ((j : Int) - 1) = (m : Int) := by rw [wrap_nn' (by omega) (by omega)]; omega
      have hm0 : decide ((m : Int) < 0) = false := by simp
      have hmn : decide (x.n ≤ m) = false := by simp; omega
      have hm2 : (m : Int) < (x.n : Int) := by omega
      have ht := less_tri (x.ks j).toList (x.ks m).toList
      have HM := hideH hm
      clear hm hcs
      have hk0 : decide ((j : Int) < 0) = false := by simp
      have hkn : decide (x.n ≤ j) = false := by simp; omega
      have hlt2 : (j : Int) < (x.n : Int) := by omega
      cases hq : ltB (x.ks m) (x.ks j)
      · rw [show Op.bytesLess (x.ks m).toList (x.ks j).toList = false from hq, Bool.not_false] at ht
        have HX : Hid (V = false) := by
          show V = false
          rw [← HV.out]
          exact decide_eq_false (fun h => by have := h m (by have := HM.out; omega); rw [← HM.out, hq] at this; cases this)
        clear hq
        go_wp2_with fail
        go_quiet (fail)
        go_wp2_with fail
        go_ret
        exact ⟨ret_bool HX.out.symm, below_drewN HW.out _⟩
      · rw [show Op.bytesLess (x.ks m).toList (x.ks j).toList = true from hq, Bool.not_true] at ht
        have HA2 : Hid (∀ i, i + 1 < j + 1 → ltB (x.ks i) (x.ks (i + 1)) = true) := fun i hi => by
          rcases Nat.lt_or_ge (i + 1) j with h | h
          · exact HA.out i h
          · have : i = m := by have := HM.out; omega
            rw [this, ← HM.out]; exact hq
        clear hq
        go_wp2_with fail
        go_quiet (fail)
        go_wp2_with fail
        try simp only [← hsa]
        go_roundw
        case rel => exact ⟨j + 1, by omega, .inl (by omega), by go_num, HC, below_drewN HW.out _, HA2⟩
        case measure => simp [intOf]; omega
    · have HX : Hid (V = true) := by
        show V = true
        rw [← HV.out]
        exact decide_eq_true (show rsOK x from fun i hi => HA.out i (by omega))
      go_wp2_with fail
      go_ret
      exact ⟨ret_bool HX.out.symm, HW.out⟩
end Go.Proofs.Ytainhpnmgligjaf

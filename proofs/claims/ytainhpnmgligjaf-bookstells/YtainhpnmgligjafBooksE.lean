/- Contracts of package books: place. -/
import Derived.Test.YtainhpnmgligjafBooksD
namespace Go.Proofs.Ytainhpnmgligjaf
open Go Go.RowKit
set_option linter.unusedVariables false

/-- where a key is found, or that it is nowhere -/
def bsP (x : Bk) (key : ByteArray) (i : Nat) (b : Bool) : Prop := b = true ∧ i < x.n ∧ (x.ks i).data.toList = key.data.toList ∨ b = false ∧ ∀ t, t < x.n → (x.ks t).data.toList ≠ key.data.toList
def bsE (x : Bk) (key : ByteArray) (w : World) (e : Ending) (w' : World) : Prop := ∃ (i : Nat) (b : Bool), e = .returned (.tuple #[.int .i64 i, .bool b]) ∧ Below w.heap.size w w' ∧ bsP x key i b
theorem tl (a : ByteArray) : a.toList = a.data.toList := ByteArray.toList_eq a
set_option maxHeartbeats 8000000 in
theorem Bsearch_c (x : Bk) (key : ByteArray) (w : World) (hn : x.n ≤ 1000) (hP : x.row w) (hr : rsOK x) :
    Calls Try.prog 31 #[.slice x.a x.n x.c, .string key, .func (.func 32) #[] #[]] w fun e w' => bsE x key w e w' := by
  have HP := hideH hP
  have HR := hideH hr
  clear hP hr
  have HC := hideH (fun j v => place1_c (x.ks j) (x.ts j) key v)
  go_enter Try.func31, Try.ntmps31
  go_wp2_with fail
  go_loopw [9, 10] (fun x9 x10 wr => ∃ i j : Nat, i ≤ j ∧ j ≤ x.n ∧ x9 = .int .i64 i ∧ x10 = .int .i64 j ∧ Hid (∀ t, t < i → ltB (x.ks t) key = true) ∧ Hid (∀ t, j ≤ t → t < x.n → ltB (x.ks t) key = false) ∧ Hid (Below w.heap.size w wr)) (fun x9 x10 _ => (intOf x10).toNat - (intOf x9).toNat)
  case atStart => exact ⟨0, x.n, Nat.zero_le _, Nat.le_refl _, rfl, rfl, fun t ht => by omega, fun t h1 h2 => by omega, Below.refl _ _⟩
  case round =>
    obtain ⟨i, j, hij, hjn, rfl, rfl, HA, HB, HW⟩ := hrel
    by_cases hlt : i < j
    · obtain ⟨h, hh⟩ : ∃ h : Nat, h = (i + j) / 2 := ⟨_, rfl⟩
      have hm1 : i ≤ h := by omega
      have hm2 : h < j := by omega
      have hmid : ((i : Int) + (j : Int)) / 2 = (h : Int) := by omega
      clear hh
      rcases HP.out.on HW.out with h0 | ⟨b, off, hsa, hcs⟩
      · omega
      obtain ⟨d0, d1⟩ := hcs h (by omega)
      clear hcs
      have hk0 : decide ((h : Int) < 0) = false := by simp
      have hkn : decide (x.n ≤ h) = false := by simp; omega
      have hlt2 : (h : Int) < (x.n : Int) := by omega
      obtain ⟨cz, hcz⟩ : ∃ cz, cz = Lib.compareBytes (x.ks h).data.toList key.data.toList := ⟨_, rfl⟩
      have HC1 := hideH (HC.out h)
      rw [← hcz] at HC1
      have HCZ := hideH hcz
      clear hcz
      by_cases hq : cz < 0
      · have HA2 : Hid (∀ t, t < h + 1 → ltB (x.ks t) key = true) := fun t ht => by
          have e : ltB (x.ks h) key = true := by
            have := (cmp_less (x.ks h).data.toList key.data.toList).1.1 (by rw [← HCZ.out]; exact hq)
            unfold ltB; rwa [tl, tl]
          rcases Nat.lt_or_ge t h with h1 | h1
          · exact less_trans (rs_lt HR.out h1 (by omega)) e
          · obtain rfl : t = h := by omega
            exact e
        have hqd : decide (cz < 0) = true := decide_eq_true hq
        go_wp2_with (go_at_call 32; refine (HC1.out _).mono ?_; rintro e w1 ⟨rfl, hw1⟩)
        have H1 := hideH (bthen HW.out hw1)
        clear hw1
        try simp only [← hsa]
        go_roundw
        case rel => exact ⟨h + 1, j, by omega, hjn, by go_num, rfl, HA2, HB, H1⟩
        case measure => simp [intOf]; omega
      · have hqd : decide (cz < 0) = false := decide_eq_false hq
        go_wp2_with (go_at_call 32; refine (HC1.out _).mono ?_; rintro e w1 ⟨rfl, hw1⟩)
        have HB2 : Hid (∀ t, h ≤ t → t < x.n → ltB (x.ks t) key = false) := fun t h1 h2 => by
          have e : ltB (x.ks h) key = false := by
            cases hb : ltB (x.ks h) key
            · rfl
            · unfold ltB at hb
              rw [tl, tl] at hb
              have := (cmp_less (x.ks h).data.toList key.data.toList).1.2 hb
              rw [← HCZ.out] at this
              omega
          rcases Nat.lt_or_ge h t with h3 | h3
          · cases hb : ltB (x.ks t) key
            · rfl
            · have := less_trans (rs_lt HR.out h3 h2) hb
              rw [show Op.bytesLess (x.ks h).toList key.toList = false from e] at this
              cases this
          · obtain rfl : t = h := by omega
            exact e
        have H1 := hideH (bthen HW.out hw1)
        clear hw1
        try simp only [← hsa]
        go_roundw
        case rel => exact ⟨i, h, by omega, by omega, rfl, rfl, HA, HB2, H1⟩
        case measure => simp [intOf]; omega
    · obtain rfl : i = j := by omega
      by_cases hin : i < x.n
      · rcases HP.out.on HW.out with h0 | ⟨b, off, hsa, hcs⟩
        · omega
        obtain ⟨d0, d1⟩ := hcs i hin
        clear hcs
        have hk0 : decide ((i : Int) < 0) = false := by simp
        have hkn : decide (x.n ≤ i) = false := by simp; omega
        have hlt2 : (i : Int) < (x.n : Int) := by omega
        obtain ⟨cz, hcz⟩ : ∃ cz, cz = Lib.compareBytes (x.ks i).data.toList key.data.toList := ⟨_, rfl⟩
        have HC1 := hideH (HC.out i)
        rw [← hcz] at HC1
        have HCZ := hideH hcz
        clear hcz
        rcases beq_cases cz 0 with ⟨q1, q2⟩ | ⟨q1, q2⟩
        · have HQ : Hid ((x.ks i).data.toList = key.data.toList) := (cmp_less _ _).2.1 (by rw [← HCZ.out]; exact q2)
          clear q2
          go_wp2_with (go_at_call 32; refine (HC1.out _).mono ?_; rintro e w1 ⟨rfl, hw1⟩)
          go_ret2
          unfold bsE
          exact ⟨i, true, rfl, bthen HW.out hw1, .inl ⟨rfl, hin, HQ.out⟩⟩
        · have HQ : Hid ((x.ks i).data.toList ≠ key.data.toList) := fun e => q2 (by rw [HCZ.out]; exact (cmp_less _ _).2.2 e)
          clear q2
          go_wp2_with (go_at_call 32; refine (HC1.out _).mono ?_; rintro e w1 ⟨rfl, hw1⟩)
          go_ret2
          unfold bsE
          refine ⟨i, false, rfl, bthen HW.out hw1, .inr ⟨rfl, fun t ht e => ?_⟩⟩
          rcases Nat.lt_or_ge t i with h3 | h3
          · have := HA.out t h3
            unfold ltB at this
            rw [tl, tl, e, less_irr] at this
            cases this
          · rcases Nat.lt_or_ge i t with h4 | h4
            · have h5 := rs_lt HR.out h4 ht
              have h6 := HB.out i (Nat.le_refl _) hin
              unfold ltB at h5 h6
              rw [tl, tl] at h5 h6
              rw [e, h6] at h5
              cases h5
            · obtain rfl : t = i := by omega
              exact HQ.out e
      · have hin2 : ¬ ((i : Int) < (x.n : Int)) := by omega
        go_wp2_with fail
        go_ret2
        unfold bsE
        refine ⟨i, false, rfl, HW.out, .inr ⟨rfl, fun t ht e => ?_⟩⟩
        have := HA.out t (by omega)
        unfold ltB at this
        rw [tl, tl, e, less_irr] at this
        cases this
end Go.Proofs.Ytainhpnmgligjaf

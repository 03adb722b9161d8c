/- Plain: a number that is told is read as it was. -/
import Derived.Lib.ItoaLen
import Derived.Test.YtbpdbggojgijiaaGreatDoorSourceJ
namespace Go.Proofs.YtbpdbggojgijiaaGreatDoor.Src
open Go
set_option linter.unusedVariables false

theorem pu_app (c : UInt8) : ∀ (a : By) (acc v : Nat), Lib.parseUint10 acc a = .ok v → Lib.parseUint10 acc (a ++ [c]) = Lib.parseUint10 v [c]
  | [], acc, v, h => by
    simp only [Lib.parseUint10] at h
    injection h with h
    subst h
    rfl
  | x :: a, acc, v, h => by
    simp only [Lib.parseUint10] at h
    by_cases h1 : 48 ≤ x.toNat ∧ x.toNat ≤ 57
    · rw [if_pos h1] at h
      by_cases h2 : 1844674407370955162 ≤ acc
      · rw [if_pos h2] at h; cases h
      · rw [if_neg h2] at h
        by_cases h3 : 18446744073709551616 ≤ acc * 10 + (x.toNat - 48)
        · rw [if_pos h3] at h; cases h
        · rw [if_neg h3] at h
          show Lib.parseUint10 acc (x :: (a ++ [c])) = _
          rw [Lib.parseUint10, if_pos h1, if_neg h2, if_neg h3]
          exact pu_app c a _ v h
    · rw [if_neg h1] at h; cases h
theorem dgt {d : Nat} (h : d < 10) : (UInt8.ofNat (48 + d)).toNat = 48 + d := by
  rw [UInt8.toNat_ofNat']
  exact Nat.mod_eq_of_lt (by omega)
theorem dec_ok (u : Nat) (h : u < 18446744073709551616) : Lib.parseUint10 0 (Lib.decDigits u) = .ok u := by
  induction u using Nat.strongRecOn with
  | _ u ih =>
    by_cases e : u < 10
    · rw [Lib.decDigits, dif_pos e, Lib.parseUint10, dgt e, if_pos (by omega), if_neg (by decide), if_neg (by omega), Lib.parseUint10]
      congr 1
      omega
    · rw [Lib.decDigits, dif_neg e, pu_app _ _ _ _ (ih (u / 10) (by omega) (by omega)), Lib.parseUint10, dgt (by omega), if_pos (by omega), if_neg (by omega), if_neg (by omega), Lib.parseUint10]
      congr 1
      omega
theorem dec_dig (u : Nat) : ∀ c ∈ Lib.decDigits u, 48 ≤ c.toNat ∧ c.toNat ≤ 57 := by
  induction u using Nat.strongRecOn with
  | _ u ih =>
    intro c hc
    by_cases e : u < 10
    · rw [Lib.decDigits, dif_pos e] at hc
      have : c = UInt8.ofNat (48 + u) := by simpa using hc
      rw [this, dgt e]
      omega
    · rw [Lib.decDigits, dif_neg e] at hc
      rcases List.mem_append.1 hc with hc | hc
      · exact ih (u / 10) (by omega) c hc
      · have : c = UInt8.ofNat (48 + u % 10) := by simpa using hc
        rw [this, dgt (by omega)]
        omega
theorem dec_ne (u : Nat) : Lib.decDigits u ≠ [] := by
  rw [Lib.decDigits]
  split <;> simp
theorem itoa_clean (n : Int) : (32 : UInt8) ∉ Lib.itoa n ∧ (10 : UInt8) ∉ Lib.itoa n := by
  have key : ∀ c : UInt8, c ∈ Lib.itoa n → c = 45 ∨ (48 ≤ c.toNat ∧ c.toNat ≤ 57) := fun c hc => by
    unfold Lib.itoa at hc
    split at hc
    · rcases List.mem_cons.1 hc with h | h
      · exact .inl h
      · exact .inr (dec_dig _ c h)
    · exact .inr (dec_dig _ c hc)
  constructor
  · intro h
    rcases key _ h with h | h
    · exact absurd h (by decide)
    · exact absurd h.1 (by decide)
  · intro h
    rcases key _ h with h | h
    · exact absurd h (by decide)
    · exact absurd h.1 (by decide)
/-- a number that Go bears is read as it was -/
theorem num_itoa {n : Int} (h : (Wo.n n).ok) : numA (Lib.itoa n) = n := by
  obtain ⟨h1, h2⟩ : -9223372036854775808 ≤ n ∧ n ≤ 9223372036854775807 := h
  have key : Lib.atoiAll (Lib.itoa n) = .ok n := by
    unfold Lib.itoa
    by_cases hn : n < 0
    · rw [if_pos hn]
      unfold Lib.atoiAll
      have hm : Lib.parseMag (Lib.decDigits n.natAbs) = .ok n.natAbs := by
        unfold Lib.parseMag
        rw [if_neg (dec_ne _)]
        exact dec_ok _ (by omega)
      simp only [show ((45 : UInt8).toNat = 43 ∨ (45 : UInt8).toNat = 45) = True by decide, if_true, hm]
      rw [if_neg (by simp), if_neg (by simp; omega)]
      simp
      omega
    · rw [if_neg hn]
      have hm : Lib.parseMag (Lib.decDigits n.toNat) = .ok n.toNat := by
        unfold Lib.parseMag
        rw [if_neg (dec_ne _)]
        exact dec_ok _ (by omega)
      cases hd : Lib.decDigits n.toNat with
      | nil => exact absurd hd (dec_ne _)
      | cons c r =>
        have hc := dec_dig n.toNat c (by rw [hd]; simp)
        rw [hd] at hm
        unfold Lib.atoiAll
        have e1 : ¬ c.toNat = 43 := by omega
        have e2 : ¬ c.toNat = 45 := by omega
        simp only [e1, e2, or_self, if_false]
        rw [hm]
        show (if ¬ False ∧ 9223372036854775808 ≤ n.toNat then Lib.NumEnd.range else if False ∧ 9223372036854775808 < n.toNat then Lib.NumEnd.range else Lib.NumEnd.ok ((n.toNat : Nat) : Int)) = _
        rw [if_neg (fun h => by omega), if_neg (fun h => h.1)]
        congr 1
        omega
  unfold numA
  rw [key]
end Go.Proofs.YtbpdbggojgijiaaGreatDoor.Src

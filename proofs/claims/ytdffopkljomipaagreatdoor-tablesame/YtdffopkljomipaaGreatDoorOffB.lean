/- Contracts of package off: firstLetter, ruled. -/
import Derived.Test.YtdffopkljomipaaGreatDoorOffA
import Derived.Test.YtdffopkljomipaaGreatDoorRulesM
import Derived.Deep.QuietTactic
import Derived.BigQuiet
namespace Go.Proofs.YtdffopkljomipaaGreatDoor
open Go Go.RowKit Go.Maps
set_option linter.unusedVariables false

/-- the letter of the first rule that saves nothing; none: empty -/
def fstL (rs : Nat → Rl) (n : Nat) : ByteArray := match (List.range n).find? fun j => decide ((rs j).sv = 0) with | some j => (rs j).s | none => ⟨#[]⟩
theorem fstL_at {rs : Nat → Rl} {n k : Nat} (hk : k < n) (h : (rs k).sv = 0) (h0 : ∀ i, i < k → (rs i).sv ≠ 0) : fstL rs n = (rs k).s := by
  unfold fstL
  rw [find_range hk (by simpa using h) (fun i hi => by simpa using h0 i hi)]
theorem fstL_no {rs : Nat → Rl} {n : Nat} (h0 : ∀ i, i < n → (rs i).sv ≠ 0) : fstL rs n = ⟨#[]⟩ := by
  unfold fstL
  rw [List.find?_eq_none.2 (fun x hx => by simpa using h0 x (List.mem_range.1 hx))]
theorem fstL_size {rs : Nat → Rl} {n : Nat} {m : Nat} (h : ∀ i, i < n → (rs i).s.size ≤ m) : (fstL rs n).size ≤ m := by
  unfold fstL
  split
  · rename_i j hj
    exact h j (List.mem_range.1 (List.mem_of_find?_eq_some hj))
  · exact Nat.zero_le _
set_option maxRecDepth 100000 in
set_option maxHeartbeats 2000000 in
theorem firstLetter_c (a : Option Addr) (n cap : Nat) (rs : Nat → Rl) (w : World) (hR : ARow w a n cap rs) (hm : n ≤ maxLen) : Calls Tryz.prog 43 #[.slice a n cap] w fun e w' => e = .returned (.string (fstL rs n)) ∧ Below w.heap.size w w' := by
  unfold maxLen at hm
  generalize hV : fstL rs n = V
  have HV := hideH hV
  have HR := hideH hR
  clear hV hR
  go_enter Tryz.func43, Tryz.ntmps43
  go_wp2_with fail
  go_loopw [7] (fun x7 v => ∃ k : Nat, k ≤ n ∧ x7 = .int .i64 k ∧ Hid (Below w.heap.size w v) ∧ Hid (∀ i, i < k → (rs i).sv ≠ 0)) (fun x7 _ => n - (intOf x7).toNat)
  case atStart => exact ⟨0, Nat.zero_le _, rfl, Below.refl _ _, fun i hi => by omega⟩
  case round =>
    obtain ⟨k, hk, rfl, HW, HA⟩ := hrel
    by_cases hlt : k < n
    · rcases HR.out.on HW.out with h0 | ⟨b, off, hsa, hrow⟩
      · omega
      obtain ⟨c0, c1, c2, c3, c4, c5, c6, c7, c8⟩ := hrow k hlt
      clear hrow
      have hb := hideH ((Below.refl _ wr).alloc (Nat.le_refl _) (.cells (rs k).cs 57))
      rcases beq_cases (rs k).sv 0 with ⟨q1, q2⟩ | ⟨q1, q2⟩
      · have HX := hideH (fstL_at hlt q2 HA.out)
        clear q2
        go_wp2_with fail
        go_ret
        exact ⟨by rw [← HV.out, HX.out]; rfl, bthen HW.out hb.out⟩
      · have HA2 : Hid (∀ i, i < k + 1 → (rs i).sv ≠ 0) := fun i hi => by
          rcases Nat.lt_or_ge i k with h | h
          · exact HA.out i h
          · obtain rfl : i = k := by omega
            exact q2
        clear q2
        go_wp2_with fail
        try simp only [← hsa]
        go_roundw
        case rel => exact ⟨k + 1, by omega, by go_num, bthen HW.out hb.out, HA2⟩
        case measure => simp [intOf]; omega
    · have HX := hideH (fstL_no (rs := rs) (n := n) (fun i hi => HA.out i (by omega)))
      go_wp2_with fail
      go_ret
      exact ⟨by rw [← HV.out, HX.out]; rfl, HW.out⟩

/-- what rules save, and their letter -/
def rulS (rs : Nat → Rl) (n : Nat) (std t : Int) : Int := if lastE rs n std t = 0 then (rs (lastK rs n std t).toNat).sv else 0
def rulL (rs : Nat → Rl) (n : Nat) (std t : Int) : ByteArray := if lastE rs n std t = 0 then (rs (lastK rs n std t).toNat).s else fstL rs n
set_option maxRecDepth 100000 in
set_option maxHeartbeats 2000000 in
theorem ruled_c (a : Option Addr) (n cap : Nat) (rs : Nat → Rl) (std t : Int) (w : World) (hL : Laid w) (hR : ARow w a n cap rs) (hm : n ≤ maxLen) (hz : ∀ j, j < n → (rs j).s.size ≤ maxLen) :
    Calls Tryz.prog 25 #[.slice a n cap, .int .i64 std, .int .i64 t] w fun e w' => e = .returned (.tuple #[.int .i64 (rulS rs n std t), .string (rulL rs n std t)]) ∧ Below w.heap.size w w' := by
  have HR := hideH hR
  have HM := hideH hm
  rcases beq_cases (lastE rs n std t) 0 with ⟨q1, q2⟩ | ⟨q1, q2⟩
  · obtain ⟨k, k1, k2, -, -, -⟩ := last_which rs n std t q2
    have e1 : rulS rs n std t = (rs k).sv := by unfold rulS; rw [if_pos q2, k2]; rfl
    have e2 : rulL rs n std t = (rs k).s := by unfold rulL; rw [if_pos q2, k2]; rfl
    have HLast : Hid (Calls Tryz.prog 42 #[.slice a n cap, .int .i64 std, .int .i64 t] w fun e w' => e = .returned (.tuple #[.int .i64 k, .int .i64 (lastN rs n std t), .int .i64 0]) ∧ Below w.heap.size w w') := by
      have := Last_c a n cap rs std t w hL hR hm hz
      rwa [k2, q2] at this
    rw [e1, e2]
    clear e1 e2 hL hR hm hz q1 q2 k2
    go_enter Tryz.func25, Tryz.ntmps25
    go_wp2_with fail
    refine HLast.out.mono ?_
    rintro e w1 ⟨rfl, hw1⟩
    have H1 := hideH hw1
    rcases HR.out.on hw1 with h0 | ⟨b, off, hsa, hrow⟩
    · omega
    obtain ⟨c0, c1, c2, c3, c4, c5, c6, c7, c8⟩ := hrow k k1
    clear hrow hw1
    have hk0 : decide ((k : Int) < 0) = false := by simp
    have hkn : decide (n ≤ k) = false := by simp; omega
    have hki : (k : Int) < (n : Int) := by omega
    go_wp2_with fail
    go_quiet (fail)
    go_wp2
    go_ret2
    exact ⟨rfl, below_drewN H1.out _⟩
  · have e1 : rulS rs n std t = 0 := by unfold rulS; rw [if_neg q2]
    have e2 : rulL rs n std t = fstL rs n := by unfold rulL; rw [if_neg q2]
    have hne : (lastE rs n std t != 0) = true := by rw [bne_iff_ne]; exact q2
    have HLast := hideH (Last_c a n cap rs std t w hL hR hm hz)
    rw [e1, e2]
    clear e1 e2 hL hR hm hz q1 q2
    go_enter Tryz.func25, Tryz.ntmps25
    go_wp2_with fail
    refine HLast.out.mono ?_
    rintro e w1 ⟨rfl, hw1⟩
    have H1 := hideH hw1
    have R1 := hideH (HR.out.on hw1)
    clear hw1
    go_wp2_with fail
    refine (firstLetter_c a n cap rs _ R1.out HM.out).mono ?_
    rintro e w2 ⟨rfl, hw2⟩
    go_wp2_with fail
    go_ret2
    exact ⟨rfl, bthen H1.out hw2⟩
end Go.Proofs.YtdffopkljomipaaGreatDoor

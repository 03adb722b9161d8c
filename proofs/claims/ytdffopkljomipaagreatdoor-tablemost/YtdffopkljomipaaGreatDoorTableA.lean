/- Turns: how they lie in memory; the contract of table.isTable. -/
import Derived.Test.YtdffopkljomipaaGreatDoorOffCAll
import Derived.Deep.QuietTactic
import Derived.BigQuiet
namespace Go.Proofs.YtdffopkljomipaaGreatDoor
open Go Go.RowKit
set_option linter.unusedVariables false

structure Tu where
  at_ : Int
  tt : Int
  sv : Int
  ab : ByteArray
/-- four cells each, in a row -/
def TuAt (w : World) (a : Option Addr) (n : Nat) (ts : Nat → Tu) : Prop := n = 0 ∨ ∃ b off, a = some ⟨b, off, none⟩ ∧ ∀ j, j < n → w.cell? ⟨b, off + j * 4, none⟩ = some (.int .i64 (ts j).at_) ∧ w.cell? ⟨b, off + j * 4 + 1, none⟩ = some (.int .i64 (ts j).tt) ∧ w.cell? ⟨b, off + j * 4 + 2, none⟩ = some (.int .i64 (ts j).sv) ∧ w.cell? ⟨b, off + j * 4 + 3, none⟩ = some (.string (ts j).ab)
theorem TuAt.on {w w' : World} {a : Option Addr} {n : Nat} {ts : Nat → Tu} (p : TuAt w a n ts) (hb : Below w.heap.size w w') : TuAt w' a n ts := by
  rcases p with p | ⟨b, off, h1, h2⟩
  · exact .inl p
  · exact .inr ⟨b, off, h1, fun j hj => ⟨cell_on (h2 j hj).1 hb, cell_on (h2 j hj).2.1 hb, cell_on (h2 j hj).2.2.1 hb, cell_on (h2 j hj).2.2.2 hb⟩⟩
theorem TuAt.drewN {w : World} {a : Option Addr} {n : Nat} {ts : Nat → Tu} (p : TuAt w a n ts) (m : Nat) : TuAt (w.drewN m) a n ts := p
/-- they rise, up to there -/
def risT (ts : Nat → Tu) (n : Nat) : Prop := ∀ i, 1 ≤ i → i < n → (ts (i - 1)).at_ < (ts i).at_
def isT (ts : Nat → Tu) (n : Nat) : Prop := 0 < n ∧ (ts 0).at_ = 0 ∧ (ts (n - 1)).at_ < 1893456000 ∧ risT ts n
theorem wrap_nnT {n : Int} (h0 : 0 ≤ n) (h1 : n < 9223372036854775808) : IntKind.i64.wrap n = n := by
  have h64 : IntKind.i64.bits = 64 := rfl
  have hsg : IntKind.i64.signed = true := rfl
  unfold IntKind.wrap
  rw [h64, hsg]
  simp only [Bool.true_and]
  rw [Int.emod_eq_of_lt h0 (by omega)]
  simp
  omega
def isTP (w : World) (P : Prop) (e : Ending) (w' : World) : Prop := ∃ B, e = .returned (.bool B) ∧ (B = true ↔ P) ∧ Below w.heap.size w w'
set_option maxRecDepth 100000 in
set_option maxHeartbeats 4000000 in
theorem isTable_c (a : Option Addr) (n c : Nat) (ts : Nat → Tu) (w : World) (hn : n ≤ maxLen) (hT : TuAt w a n ts) :
    Calls Tryz.prog 18 #[.slice a n c] w fun e w' => isTP w (isT ts n) e w' := by
  obtain ⟨P, hP⟩ : ∃ P : Prop, (P ↔ isT ts n) := ⟨_, Iff.rfl⟩
  have HP := hideH hP
  rw [show isTP w (isT ts n) = isTP w P by rw [← propext hP]]
  clear hP
  unfold maxLen at hn
  rcases hT with rfl | ⟨b, off, rfl, hcs⟩
  · go_enter Tryz.func18, Tryz.ntmps18
    go_wp2_with fail
    go_ret
    exact ⟨false, rfl, ⟨fun h => (by cases h), fun h => absurd (HP.out.1 h).1 (Nat.lt_irrefl _)⟩, Below.refl _ _⟩
  · by_cases hz : n = 0
    · subst hz
      go_enter Tryz.func18, Tryz.ntmps18
      go_wp2_with fail
      go_ret
      exact ⟨false, rfl, ⟨fun h => (by cases h), fun h => absurd (HP.out.1 h).1 (Nat.lt_irrefl _)⟩, Below.refl _ _⟩
    · obtain ⟨m, rfl⟩ : ∃ m, n = m + 1 := ⟨n - 1, by omega⟩
      have HC := hideH hcs
      have c0 : w.cell? ⟨b, off, none⟩ = some (.int .i64 (ts 0).at_) := (hcs 0 (by omega)).1
      have cm := (hcs m (by omega)).1
      clear hcs hz
      have hwm : IntKind.i64.wrap (m : Int) = (m : Int) := wrap_nnT (by omega) (by omega)
      have hz1 : ¬ (((m + 1 : Nat) : Int) = 0) := by omega
      have hz2 : ((m : Int) + 1 == 0) = false := by simp; omega
      have hm0 : (m : Int) < (m : Int) + 1 := by omega
      rcases beq_cases (ts 0).at_ 0 with ⟨q1, q2⟩ | ⟨q1, q2⟩
      · by_cases q3 : (ts m).at_ < 1893456000
        · have q4 : ¬ (1893456000 ≤ (ts m).at_) := by omega
          have Q2 := hideH q2
          have Q3 := hideH q3
          go_enter Tryz.func18, Tryz.ntmps18
          go_wp2_with fail
          clear c0 cm
          go_loopw [3] (fun x3 v => ∃ k : Nat, k ≤ m ∧ x3 = .int .i64 ((k + 1 : Nat) : Int) ∧ Hid (risT ts (k + 1)) ∧ Hid (Below w.heap.size w v)) (fun x3 _ => m + 1 - (intOf x3).toNat)
          case atStart => exact ⟨0, Nat.zero_le _, rfl, fun i h1 h2 => by omega, Below.refl _ _⟩
          case round =>
            obtain ⟨k, hk, rfl, HR, HW⟩ := hrel
            by_cases hlt : k < m
            · have d0 := cell_on (HC.out k (by omega)).1 HW.out
              have d1 := cell_on (HC.out (k + 1) (by omega)).1 HW.out
              have hwk : IntKind.i64.wrap (k : Int) = (k : Int) := wrap_nnT (by omega) (by omega)
              have hk1 : (k : Int) < (m : Int) + 1 := by omega
              have hk2 : (k : Int) + 1 < (m : Int) + 1 := by omega
              by_cases hq : (ts (k + 1)).at_ ≤ (ts k).at_
              · go_wp2_with fail
                go_quiet (fail)
                go_wp2_with fail
                go_ret
                exact ⟨false, rfl, ⟨fun h => (by cases h), fun h => by
                  have := (HP.out.1 h).2.2.2 (k + 1) (by omega) (by omega)
                  simp only [Nat.add_sub_cancel] at this
                  omega⟩, below_drewN HW.out _⟩
              · go_wp2_with fail
                go_quiet (fail)
                go_wp2_with fail
                go_roundw
                case rel => exact ⟨k + 1, by omega, by go_num, fun i h1 h2 => by
                  by_cases hi : i = k + 1
                  · subst hi
                    simp only [Nat.add_sub_cancel]
                    omega
                  · exact HR.out i h1 (by omega), below_drewN HW.out _⟩
                case measure => simp [intOf]; omega
            · obtain rfl : k = m := by omega
              go_wp2_with fail
              go_ret
              exact ⟨true, rfl, ⟨fun _ => HP.out.2 ⟨by omega, Q2.out, by simpa using Q3.out, HR.out⟩, fun _ => rfl⟩, HW.out⟩
        · have q4 : 1893456000 ≤ (ts m).at_ := by omega
          go_enter Tryz.func18, Tryz.ntmps18
          go_wp2_with fail
          go_ret
          exact ⟨false, rfl, ⟨fun h => (by cases h), fun h => by
            have := (HP.out.1 h).2.2.1
            simp only [Nat.add_sub_cancel] at this
            omega⟩, Below.refl _ _⟩
      · have hne : ((ts 0).at_ != 0) = true := by rw [bne_iff_ne]; exact q2
        have Q2 := hideH q2
        go_enter Tryz.func18, Tryz.ntmps18
        go_wp2_with fail
        go_ret
        exact ⟨false, rfl, ⟨fun h => (by cases h), fun h => absurd (HP.out.1 h).2.1 Q2.out⟩, Below.refl _ _⟩
end Go.Proofs.YtdffopkljomipaaGreatDoor

/- Contracts of Last and LastOf for whatever list; of the statements' own spring and rulesBegun. -/
import Derived.Test.YtlmhapbmebnmlabDoorRulesI
namespace Go.Proofs.YtlmhapbmebnmlabDoor
open Go Go.RowKit
set_option linter.unusedVariables false

theorem last_nil_cases (rs : Nat → Rl) (std t : Int) :
    (inB std (-50400) 50400 = false ∧ lastE rs 0 std t = 3 ∧ lastK rs 0 std t = 0 ∧ lastN rs 0 std t = 0) ∨
    (inB std (-50400) 50400 = true ∧ ((inB t 0 1893455999 = false ∧ lastE rs 0 std t = 3 ∧ lastK rs 0 std t = 0 ∧ lastN rs 0 std t = 0) ∨
      (inB t 0 1893455999 = true ∧ lastE rs 0 std t = 4 ∧ lastK rs 0 std t = 0 ∧ lastN rs 0 std t = 0))) := by
  rcases last_cases rs 0 std t with ⟨h, _⟩ | ⟨_, h⟩
  · omega
  · rcases h with ⟨h, _⟩ | ⟨_, h⟩
    · exact absurd rfl h
    · rcases h with h | ⟨h1, h⟩
      · exact .inl h
      · rcases h with h | ⟨h2, h⟩
        · exact .inr ⟨h1, .inl h⟩
        · rcases h with ⟨_, h⟩ | ⟨h3, _⟩
          · exact .inr ⟨h1, .inr ⟨h2, h⟩⟩
          · exact absurd (by show (-1 : Int) < 0; omega) h3
theorem latest_nil (a : Option Addr) (cap : Nat) (std t : Int) (w : World) :
    Calls Tryd.prog 30 #[.slice a 0 cap, .int .i64 std, .int .i64 t] w fun e w' => e = .returned (.tuple #[.int .i64 (-1), .int .i64 0]) ∧ w' = w := by
  go_enter Tryd.func30, Tryd.ntmps30
  go_wp2
  go_loop [8, 9, 16] (fun x8 x9 x => x8 = .int .i64 (-1) ∧ x9 = .int .i64 0 ∧ x = .int .i64 0) (fun _ _ _ => 0)
  case atStart => exact ⟨rfl, rfl, rfl⟩
  case round =>
    obtain ⟨rfl, rfl, rfl⟩ := hrel
    go_wp2_with fail
    go_ret2
    exact ⟨rfl, rfl⟩
theorem Rlast_nil (a : Option Addr) (cap : Nat) (std t : Int) (w : World) :
    Calls Tryd.prog 32 #[.slice a 0 cap, .int .i64 std, .int .i64 t] w fun e w' => e = .returned (.tuple #[.int .i64 0, .int .i64 0, .bool false]) ∧ w' = w := by
  go_enter Tryd.func32, Tryd.ntmps32
  go_wp2
  go_loop [9, 10, 11, 12] (fun x9 x10 x11 x => x9 = .int .i64 0 ∧ x10 = .int .i64 0 ∧ x11 = .bool false ∧ x = .int .i64 0) (fun _ _ _ _ => 0)
  case atStart => exact ⟨rfl, rfl, rfl, rfl⟩
  case round =>
    obtain ⟨rfl, rfl, rfl, rfl⟩ := hrel
    go_wp2_with fail
    go_ret3
    exact ⟨rfl, rfl⟩
theorem Last_nil (a : Option Addr) (cap : Nat) (rs : Nat → Rl) (std t : Int) (w : World) :
    Calls Tryd.prog 12 #[.slice a 0 cap, .int .i64 std, .int .i64 t] w fun e w' => e = .returned (.tuple #[.int .i64 (lastK rs 0 std t), .int .i64 (lastN rs 0 std t), .int .i64 (lastE rs 0 std t)]) ∧ Below w.heap.size w w' := by
  rcases last_nil_cases rs std t with ⟨s1, e1, e2, e3⟩ | ⟨s1, h⟩
  · rw [e1, e2, e3]
    clear e1 e2 e3
    go_enter Tryd.func12, Tryd.ntmps12
    go_wp2
    go_loop [19] (fun x => x = .int .i64 0) (fun _ => 0)
    case atStart => rfl
    case round =>
      subst hrel
      go_wp2_with (go_at_call 15; refine (isStd_c _ _).mono ?_; rintro e w ⟨rfl, rfl⟩)
      go_ret3
      exact ⟨rfl, Below.refl _ _⟩
  · rcases h with ⟨t1, e1, e2, e3⟩ | ⟨t1, e1, e2, e3⟩
    · rw [e1, e2, e3]
      clear e1 e2 e3
      have tb : t < 0 ∨ (0 ≤ t ∧ 1893456000 ≤ t) := by unfold inB at t1; simp at t1; omega
      clear t1
      rcases tb with tb | ⟨tb, tb'⟩
      all_goals
        go_enter Tryd.func12, Tryd.ntmps12
        go_wp2
        go_loop [19] (fun x => x = .int .i64 0) (fun _ => 0)
        case atStart => rfl
        case round =>
          subst hrel
          go_wp2_with (go_at_call 15; refine (isStd_c _ _).mono ?_; rintro e w ⟨rfl, rfl⟩)
          go_ret3
          exact ⟨rfl, Below.refl _ _⟩
    · rw [e1, e2, e3]
      have tb := in_of t1
      clear e1 e2 e3 t1
      have tb2 : t < 1893456000 := by omega
      go_enter Tryd.func12, Tryd.ntmps12
      go_wp2
      go_loop [19] (fun x => x = .int .i64 0) (fun _ => 0)
      case atStart => rfl
      case round =>
        subst hrel
        go_wp2_with (first
          | (go_at_call 15; refine (isStd_c _ _).mono ?_; rintro e w ⟨rfl, rfl⟩)
          | (go_at_call 30; refine (latest_nil _ _ _ _ _).mono ?_; rintro e w ⟨rfl, rfl⟩))
        go_ret3
        exact ⟨rfl, Below.refl _ _⟩
theorem LastOf_nil (a : Option Addr) (cap : Nat) (rs : Nat → Rl) (std t : Int) (w : World) :
    Calls Tryd.prog 13 #[.slice a 0 cap, .int .i64 std, .int .i64 t] w fun e w' => e = .returned (.tuple #[.int .i64 (lastK rs 0 std t), .int .i64 (lastN rs 0 std t), .int .i64 (lastE rs 0 std t)]) ∧ Below w.heap.size w w' := by
  rcases last_nil_cases rs std t with ⟨s1, e1, e2, e3⟩ | ⟨s1, ⟨t1, e1, e2, e3⟩ | ⟨t1, e1, e2, e3⟩⟩
  all_goals
    rw [e1, e2, e3]
    clear e1 e2 e3
    go_enter Tryd.func13, Tryd.ntmps13
    go_wp2
    go_loop [9] (fun x => x = .int .i64 0) (fun _ => 0)
    case atStart => rfl
    case round =>
      subst hrel
      go_wp2_with (first
        | (go_at_call 18; refine (RisStd_c _ _).mono ?_; rintro e w ⟨rfl, rfl⟩)
        | (go_at_call 31; refine (isTime_c _ _).mono ?_; rintro e w ⟨rfl, rfl⟩)
        | (go_at_call 32; refine (Rlast_nil _ _ _ _ _).mono ?_; rintro e w ⟨rfl, rfl⟩))
      go_ret3
      exact ⟨rfl, Below.refl _ _⟩
/-- a list of n rules, as a slice leads to it -/
def ARow (w : World) (a : Option Addr) (n cap : Nat) (rs : Nat → Rl) : Prop := (n = 0) ∨ ∃ b off, a = some ⟨b, off, none⟩ ∧ Row w b off n rs
theorem ARow.on {w w' : World} {a : Option Addr} {n cap : Nat} {rs : Nat → Rl} (h : ARow w a n cap rs) (hb : Below w.heap.size w w') : ARow w' a n cap rs := by
  rcases h with h | ⟨b, off, h1, h2⟩
  · exact .inl h
  · exact .inr ⟨b, off, h1, h2.on hb⟩
theorem Last_c (a : Option Addr) (n cap : Nat) (rs : Nat → Rl) (std t : Int) (w : World) (hL : Laid w) (hR : ARow w a n cap rs) (hm : n ≤ maxLen) (hz : ∀ j, j < n → (rs j).s.size ≤ maxLen) :
    Calls Tryd.prog 12 #[.slice a n cap, .int .i64 std, .int .i64 t] w fun e w' => e = .returned (.tuple #[.int .i64 (lastK rs n std t), .int .i64 (lastN rs n std t), .int .i64 (lastE rs n std t)]) ∧ Below w.heap.size w w' := by
  rcases hR with rfl | ⟨b, off, rfl, h⟩
  · exact Last_nil a cap rs std t w
  · exact Last_some b off n cap rs std t w hL h hm hz
theorem LastOf_c (a : Option Addr) (n cap : Nat) (rs : Nat → Rl) (std t : Int) (w : World) (hR : ARow w a n cap rs) (hm : n ≤ maxLen) (hz : ∀ j, j < n → (rs j).s.size ≤ maxLen) :
    Calls Tryd.prog 13 #[.slice a n cap, .int .i64 std, .int .i64 t] w fun e w' => e = .returned (.tuple #[.int .i64 (lastK rs n std t), .int .i64 (lastN rs n std t), .int .i64 (lastE rs n std t)]) ∧ Below w.heap.size w w' := by
  rcases hR with rfl | ⟨b, off, rfl, h⟩
  · exact LastOf_nil a cap rs std t w
  · exact LastOf_some b off n cap rs std t w h hm hz
end Go.Proofs.YtlmhapbmebnmlabDoor

/- Contracts of package pick: Check, and what it leans on. -/
import Derived.Test.YtlmhapbmebnmlabDoorRefB
import Derived.Deep.QuietTactic
import Derived.BigQuiet
namespace Go.Proofs.YtlmhapbmebnmlabDoor
open Go Go.RowKit
set_option linter.unusedVariables false

theorem cell_lt {w : World} {b o : Nat} {v : Value} (h : w.cell? ⟨b, o, none⟩ = some v) : b < w.heap.size := by
  rcases Nat.lt_or_ge b w.heap.size with h1 | h1
  · exact h1
  · have h2 : w.heap[b]? = none := Array.getElem?_eq_none h1
    simp [World.cell?, h2] at h
theorem Laid.on {w w' : World} (h : Laid w) (k : Below w.heap.size w w') : Laid w' := by
  intro i hi
  rw [k.cell (p := ⟨0, i, none⟩) (cell_lt (h i hi))]
  exact h i hi
theorem bcell {W w1 : World} (hb : Below W.heap.size W w1) : (∀ b o, b < W.heap.size → w1.cell? ⟨b, o, none⟩ = W.cell? ⟨b, o, none⟩) ∧ (∀ b o, b < W.heap.size → w1.frozen? ⟨b, o, none⟩ = W.frozen? ⟨b, o, none⟩) :=
  ⟨fun b o h => hb.cell (p := ⟨b, o, none⟩) h, fun b o h => hb.frozen (p := ⟨b, o, none⟩) h⟩
theorem bel_box {w w' : World} {o : Obj} (h : Below (w.alloc o).heap.size (w.alloc o) w') : Below w.heap.size w w' :=
  ((Below.refl _ _).alloc (Nat.le_refl _) o).trans (h.mono (by simp))

/-- a day of a month, as a value -/
abbrev onV (k wk d : Int) : Value := .agg #[.int .i64 k, .int .i64 wk, .int .i64 d]
/-- what is wrong with it: 8, 3 or 0 -/
def chk (k wk d : Int) : Int :=
  if k < 1 ∨ 3 < k then 8
  else if wk < 0 ∨ 6 < wk ∨ (k = 1 ∧ wk ≠ 0) ∨ (k = 2 ∧ d ≠ 0) ∨ (k ≠ 2 ∧ (d < 1 ∨ 31 < d)) then 3 else 0

theorem pisDay_c (d : Int) (w : World) : Calls Tryd.prog 35 #[.int .i64 d] w fun e w' => e = .returned (.bool (inB d 1 31)) ∧ w' = w := by
  by_cases h : 1 ≤ d
  all_goals
    go_enter Tryd.func35, Tryd.ntmps35
    go_wp2
    go_ret
    exact ⟨ret_bool (by unfold inB; rw [Bool.eq_iff_iff]; simp; omega), rfl⟩
theorem isWeekday_c (d : Int) (w : World) : Calls Tryd.prog 36 #[.int .i64 d] w fun e w' => e = .returned (.bool (inB d 0 6)) ∧ w' = w := by
  by_cases h : 0 ≤ d
  all_goals
    go_enter Tryd.func36, Tryd.ntmps36
    go_wp2
    go_ret
    exact ⟨ret_bool (by unfold inB; rw [Bool.eq_iff_iff]; simp; omega), rfl⟩

theorem in_cases (n a b : Int) : inB n a b = true ∧ a ≤ n ∧ n ≤ b ∨ inB n a b = false ∧ (n < a ∨ b < n) := by
  cases h : inB n a b
  · exact .inr ⟨rfl, by unfold inB at h; simp at h; omega⟩
  · exact .inl ⟨rfl, in_of h⟩
theorem beq_cases (a b : Int) : (a == b) = true ∧ a = b ∨ (a == b) = false ∧ a ≠ b := by
  by_cases h : a = b
  · exact .inl ⟨beq_iff_eq.2 h, h⟩
  · exact .inr ⟨beq_eq_false_iff_ne.2 h, h⟩

set_option maxHeartbeats 4000000 in
theorem Check_c (k wk d : Int) (w : World) : Calls Tryd.prog 22 #[onV k wk d] w fun e w' => e = .returned (.int .i64 (chk k wk d)) ∧ Below w.heap.size w w' := by
  rcases beq_cases k 1 with ⟨k1, rfl⟩ | ⟨k1, k1'⟩
  · clear k1
    rcases beq_cases wk 0 with ⟨a1, rfl⟩ | ⟨a1, a2⟩
    · clear a1
      rcases in_cases d 1 31 with ⟨b1, b2⟩ | ⟨b1, b2⟩
      all_goals
        have hv : chk 1 0 d = (if inB d 1 31 then 0 else 3) := by unfold chk; rw [b1]; simp; omega
        rw [hv, b1]
        clear hv b2
        go_enter Tryd.func22, Tryd.ntmps22
        go_wp2_with (go_at_call 35; refine (pisDay_c _ _).mono ?_; rintro e w' ⟨rfl, rfl⟩)
        go_ret
        exact ⟨rfl, (Below.refl _ _).alloc (Nat.le_refl _) _⟩
    · have hv : chk 1 wk d = 3 := by unfold chk; omega
      rw [hv]
      clear hv a2
      go_enter Tryd.func22, Tryd.ntmps22
      go_wp2
      go_ret
      exact ⟨rfl, (Below.refl _ _).alloc (Nat.le_refl _) _⟩
  · rcases beq_cases k 2 with ⟨k2, rfl⟩ | ⟨k2, k2'⟩
    · clear k1 k1' k2
      rcases in_cases wk 0 6 with ⟨b1, b2⟩ | ⟨b1, b2⟩
      · rcases beq_cases d 0 with ⟨a1, rfl⟩ | ⟨a1, a2⟩
        · have hv : chk 2 wk 0 = 0 := by unfold chk; omega
          rw [hv]
          clear hv b2 a1
          go_enter Tryd.func22, Tryd.ntmps22
          go_wp2_with (go_at_call 36; refine (isWeekday_c _ _).mono ?_; rintro e w' ⟨rfl, rfl⟩)
          go_ret
          exact ⟨rfl, (Below.refl _ _).alloc (Nat.le_refl _) _⟩
        · have hv : chk 2 wk d = 3 := by unfold chk; omega
          rw [hv]
          clear hv b2 a2
          go_enter Tryd.func22, Tryd.ntmps22
          go_wp2_with (go_at_call 36; refine (isWeekday_c _ _).mono ?_; rintro e w' ⟨rfl, rfl⟩)
          go_ret
          exact ⟨rfl, (Below.refl _ _).alloc (Nat.le_refl _) _⟩
      · have hv : chk 2 wk d = 3 := by unfold chk; omega
        rw [hv]
        clear hv b2
        go_enter Tryd.func22, Tryd.ntmps22
        go_wp2_with (go_at_call 36; refine (isWeekday_c _ _).mono ?_; rintro e w' ⟨rfl, rfl⟩)
        go_ret
        exact ⟨rfl, (Below.refl _ _).alloc (Nat.le_refl _) _⟩
    · rcases beq_cases k 3 with ⟨k3, rfl⟩ | ⟨k3, k3'⟩
      · clear k1 k1' k2 k2' k3
        rcases in_cases wk 0 6 with ⟨b1, b2⟩ | ⟨b1, b2⟩
        · rcases in_cases d 1 31 with ⟨a1, a2⟩ | ⟨a1, a2⟩
          all_goals
            have hv : chk 3 wk d = (if inB d 1 31 then 0 else 3) := by unfold chk; rw [a1]; simp; omega
            rw [hv, a1]
            clear hv b2 a2
            go_enter Tryd.func22, Tryd.ntmps22
            go_wp2_with (first | (go_at_call 36; refine (isWeekday_c _ _).mono ?_; rintro e w' ⟨rfl, rfl⟩) | (go_at_call 35; refine (pisDay_c _ _).mono ?_; rintro e w' ⟨rfl, rfl⟩))
            go_ret
            exact ⟨rfl, (Below.refl _ _).alloc (Nat.le_refl _) _⟩
        · have hv : chk 3 wk d = 3 := by unfold chk; omega
          rw [hv]
          clear hv b2
          go_enter Tryd.func22, Tryd.ntmps22
          go_wp2_with (go_at_call 36; refine (isWeekday_c _ _).mono ?_; rintro e w' ⟨rfl, rfl⟩)
          go_ret
          exact ⟨rfl, (Below.refl _ _).alloc (Nat.le_refl _) _⟩
      · have hv : chk k wk d = 8 := by unfold chk; omega
        rw [hv]
        clear hv k1' k2' k3'
        go_enter Tryd.func22, Tryd.ntmps22
        go_wp2
        go_ret
        exact ⟨rfl, (Below.refl _ _).alloc (Nat.le_refl _) _⟩

/-- The month's last day, asked of Days. -/
theorem lastDay_c (y m : Int) (w : World) (hL : Laid w) (hy1 : 1970 ≤ y) (hy2 : y ≤ 2029) (hm1 : 1 ≤ m) (hm2 : m ≤ 12) :
    Calls Tryd.prog 41 #[.int .i64 y, .int .i64 m] w fun e w' => e = .returned (.int .i64 (Cal.ml y m)) ∧ w' = w := by
  have lb := Cal.ml_bd y m
  have HL : Hid (Laid w) := hL
  clear hL
  go_enter Tryd.func41, Tryd.ntmps41
  go_wp2_with fail
  go_loop [5] (fun k => ∃ j : Int, Cal.ml y m ≤ j ∧ j ≤ 31 ∧ k = .int .i64 j) (fun k => (intOf k).toNat)
  case atStart => exact ⟨31, by omega, by omega, rfl⟩
  case round =>
    obtain ⟨j, hj1, hj2, rfl⟩ := hrel
    by_cases hlt : Cal.ml y m < j
    · have hk : daysE y m j = 3 := by
        have : Cal.okB y m j = false := ok_not (by omega)
        simp [daysE, this]
      go_wp2_with (go_at_call 33; refine (Days_c _ _ _ _ HL.out).mono ?_; rintro e w ⟨rfl, rfl⟩)
      go_round
      case rel => exact ⟨j - 1, by omega, by omega, rfl⟩
      case measure => simp [intOf]; omega
    · have hjm : j = Cal.ml y m := by omega
      have hk : daysE y m j = 0 := by
        have : Cal.okB y m j = true := ok_mk (by omega)
        simp [daysE, this]
      have HJ : Hid (j = Cal.ml y m) := hjm
      clear hjm
      go_wp2_with (go_at_call 33; refine (Days_c _ _ _ _ HL.out).mono ?_; rintro e w ⟨rfl, rfl⟩)
      go_ret
      exact ⟨ret_int HJ.out, rfl⟩

/-- The function literal of Find: what weekday a day of the month has. -/
theorem weekday_c (d f : Int) (b : Nat) (w : World) (hc : w.cell? ⟨b, 0, none⟩ = some (.int .i64 f)) (h1 : 0 ≤ f) (h2 : f < 21915) (h3 : 1 ≤ d) (h4 : d ≤ 31) (h5 : f + d - 1 < 21915) :
    Calls Tryd.prog 38 #[.int .i64 d, .pointer (some ⟨b, 0, none⟩)] w fun e w' => e = .returned (.int .i64 ((f + d + 3) % 7)) ∧ w' = w := by
  have hv : weekR (f + d - 1) = (f + d + 3) % 7 := by
    have : Cal.dayB (f + d - 1) = true := day_mk (by omega)
    simp only [weekR, this, if_true]
    rw [show f + d - 1 + 4 = f + d + 3 from by omega]
  go_enter Tryd.func38, Tryd.ntmps38
  go_wp2_with (go_at_call 39; refine (Week_c _ _).mono ?_; rintro e w ⟨rfl, rfl⟩)
  go_ret
  exact ⟨rfl, rfl⟩
end Go.Proofs.YtlmhapbmebnmlabDoor

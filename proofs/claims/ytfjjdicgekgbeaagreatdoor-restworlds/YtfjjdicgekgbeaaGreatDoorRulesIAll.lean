/- Contracts of the document's own answers on rules: last, LastOf; and lists that are nil. -/
import Derived.Test.YtfjjdicgekgbeaaGreatDoorRulesEAll
namespace Go.Proofs.YtfjjdicgekgbeaaGreatDoor
open Go Go.RowKit
set_option linter.unusedVariables false

/-- how the document's own state tells what the program's tells -/
def Lnk (W rl : Int) (isb : Bool) : Prop := (W < 0 ∧ rl = 0 ∧ isb = false) ∨ (0 ≤ W ∧ rl = W ∧ isb = true)
theorem ret_iib {a b c d : Int} {e f : Bool} (h : a = b) (k : c = d) (l : e = f) : Ending.returned (.tuple #[.int .i64 a, .int .i64 c, .bool e]) = .returned (.tuple #[.int .i64 b, .int .i64 d, .bool f]) := by rw [h, k, l]

set_option maxHeartbeats 4000000 in
theorem Rlast_c (b off n cap : Nat) (rs : Nat → Rl) (std t : Int) (w : World) (hR : Row w b off n rs) (hn : n ≤ 4) (hok : ∀ j, j < n → bnd (rs j) = true) (s1 : -50400 ≤ std) (s2 : std ≤ 50400) (t1 : 0 ≤ t) (t2 : t < 1893456000) :
    Calls Tryz.prog 72 #[.slice (some ⟨b, off, none⟩) n cap, .int .i64 std, .int .i64 t] w fun e w' => e = .returned (.tuple #[.int .i64 (if (latR rs std t n).1 < 0 then 0 else (latR rs std t n).1), .int .i64 (latR rs std t n).2, .bool (decide (0 ≤ (latR rs std t n).1))]) ∧ Below w.heap.size w w' := by
  have HR := hideH hR
  have HO := hideH hok
  clear hR hok
  generalize hV1 : (if (latR rs std t n).1 < 0 then (0 : Int) else (latR rs std t n).1) = V1
  generalize hV2 : (latR rs std t n).2 = V2
  generalize hV3 : (decide (0 ≤ (latR rs std t n).1)) = V3
  have HV1 := hideH hV1
  have HV2 := hideH hV2
  have HV3 := hideH hV3
  clear hV1 hV2 hV3
  go_enter Tryz.func72, Tryz.ntmps72
  go_wp2_with fail
  go_loopw [9, 10, 11, 12] (fun x9 x10 x11 x12 v => ∃ (j : Nat) (W N rl : Int) (isb : Bool), j ≤ n ∧ x12 = .int .i64 j ∧ x9 = .int .i64 rl ∧ x10 = .int .i64 N ∧ x11 = .bool isb ∧ Hid (Lnk W rl isb) ∧ Hid (latR rs std t j = (W, N)) ∧ Hid (Row v b off n rs) ∧ Hid (Below w.heap.size w v)) (fun _ _ _ x12 _ => (n - intOf x12).toNat)
  case atStart => exact ⟨0, -1, 0, 0, false, by omega, rfl, rfl, rfl, rfl, .inl ⟨by omega, rfl, rfl⟩, rfl, HR, Below.refl _ _⟩
  case round =>
    obtain ⟨j, W, N, rl, isb, hj, rfl, rfl, rfl, rfl, HK, HJ, HRv, HW⟩ := hrel
    by_cases hlt : j < n
    · obtain ⟨c0, c1, c2, c3, c4, c5, c6, c7, c8⟩ := HRv.out j hlt
      have hbd := bnd_of (HO.out j hlt)
      go_wp2_with fail
      clear c0 c1 c2 c3 c4 c5 c6 c7 c8
      go_loopw [9, 10, 11, 13] (fun x9 x10 x11 x13 v => ∃ (i : Nat) (W' N' rl' : Int) (isb' : Bool), (rs j).f + i ≤ (rs j).t + 1 ∧ x13 = .int .i64 ((rs j).f + i) ∧ x9 = .int .i64 rl' ∧ x10 = .int .i64 N' ∧ x11 = .bool isb' ∧ Hid (Lnk W' rl' isb') ∧ Hid (yrsR rs std t j i = (W', N')) ∧ Hid (Row v b off n rs) ∧ Hid (Below w.heap.size w v)) (fun _ _ _ x13 _ => ((rs j).t + 1 - intOf x13).toNat)
      case atStart => exact ⟨0, W, N, rl, isb, by omega, by go_num, rfl, rfl, rfl, HK, HJ, HRv, HW⟩
      case round =>
        obtain ⟨i, W', N', rl', isb', hi, rfl, rfl, rfl, rfl, HKi, HI, HRi, HWi⟩ := hrel
        clear HRv HW HK HJ
        obtain ⟨c0, c1, c2, c3, c4, c5, c6, c7, c8⟩ := HRi.out j hlt
        by_cases hyt : (rs j).f + (i : Int) ≤ (rs j).t
        · go_wp2_with fail
          refine (begins_c (rs j) _ std _ (by omega) (by omega) s1 s2).mono ?_
          rintro e w3 ⟨rfl, hw3⟩
          have H3 := hideH (bthen HWi.out hw3)
          have R3 := hideH (HRi.out.on hw3)
          clear hw3 c0 c1 c2 c3 c4 c5 c6 c7 c8
          have HS : Hid (yrsR rs std t j (i + 1) = Lat.step t (W', N') j (begR (rs j) ((rs j).f + i) std)) := by
            show Lat.step t (yrsR rs std t j i) j (begR (rs j) ((rs j).f + i) std) = _
            rw [HI.out]
          have hbb := beg_bd (rs j) ((rs j).f + i) std (by omega) (by omega) s1 s2
          clear HI
          generalize begR (rs j) ((rs j).f + i) std = at_ at *
          by_cases q1 : at_ ≤ t
          · rcases HKi.out with ⟨q2, rfl, rfl⟩ | ⟨q2, rfl, rfl⟩
            · have HS' : Hid (yrsR rs std t j (i + 1) = ((j : Int), at_)) := by
                have := HS.out; rw [step_pos _ _ _ _ _ q1 (Or.inl q2)] at this; exact this
              clear HKi
              go_wp2_with fail
              exact ⟨⟨i + 1, j, at_, j, true, by omega, by go_num, rfl, rfl, rfl, .inr ⟨by omega, rfl, rfl⟩, HS', R3, H3⟩, by simp [intOf]; omega⟩
            · by_cases q3 : N' ≤ at_
              · have HS' : Hid (yrsR rs std t j (i + 1) = ((j : Int), at_)) := by
                  have := HS.out; rw [step_pos _ _ _ _ _ q1 (Or.inr q3)] at this; exact this
                clear HKi
                go_wp2_with fail
                exact ⟨⟨i + 1, j, at_, j, true, by omega, by go_num, rfl, rfl, rfl, .inr ⟨by omega, rfl, rfl⟩, HS', R3, H3⟩, by simp [intOf]; omega⟩
              · have HS' : Hid (yrsR rs std t j (i + 1) = (rl', N')) := by
                  have := HS.out; rw [step_neg _ _ _ _ _ (by omega)] at this; exact this
                go_wp2_with fail
                exact ⟨⟨i + 1, rl', N', rl', true, by omega, by go_num, rfl, rfl, rfl, HKi, HS', R3, H3⟩, by simp [intOf]; omega⟩
          · have HS' : Hid (yrsR rs std t j (i + 1) = (W', N')) := by
              have := HS.out; rw [step_neg _ _ _ _ _ (by omega)] at this; exact this
            go_wp2_with fail
            exact ⟨⟨i + 1, W', N', rl', isb', by omega, by go_num, rfl, rfl, rfl, HKi, HS', R3, H3⟩, by simp [intOf]; omega⟩
        · have HE : Hid (latR rs std t (j + 1) = (W', N')) := by
            have e : ((rs j).t - (rs j).f + 1).toNat = i := by omega
            show yrsR rs std t j ((rs j).t - (rs j).f + 1).toNat = _
            rw [e]; exact HI.out
          go_wp2_with fail
          exact ⟨⟨j + 1, W', N', rl', isb', by omega, by go_num, rfl, rfl, rfl, HKi, HE, HRi, HWi⟩, by simp [intOf]; omega⟩
    · have hjn : j = n := by omega
      subst hjn
      have hfin : rl = V1 ∧ N = V2 ∧ isb = V3 := by
        rw [← HV1.out, ← HV2.out, ← HV3.out, HJ.out]
        rcases HK.out with ⟨q2, rfl, rfl⟩ | ⟨q2, rfl, rfl⟩
        · exact ⟨by simp [q2], rfl, by simp; omega⟩
        · exact ⟨by simp; omega, rfl, by simp; omega⟩
      have HFin := hideH hfin
      clear hfin HV1 HV2 HV3
      go_wp2_with fail
      go_ret3
      exact ⟨ret_iib HFin.out.1 HFin.out.2.1 HFin.out.2.2, HW.out⟩

end Go.Proofs.YtfjjdicgekgbeaaGreatDoor

/- Contracts of Last and LastOf for whatever list; of the statements' own spring and rulesBegun. -/
namespace Go.Proofs.YtfjjdicgekgbeaaGreatDoor
open Go Go.RowKit
set_option linter.unusedVariables false

theorem last_nil_cases (rs : Nat → Rl) (std t : Int) :
    (inB std (-50400) 50400 = false ∧ lastE rs 0 std t = 3 ∧ lastK rs 0 std t = 0 ∧ lastN rs 0 std t = 0) ∨
    (inB std (-50400) 50400 = true ∧ ((inB t 0 1893455999 = false ∧ lastE rs 0 std t = 3 ∧ lastK rs 0 std t = 0 ∧ lastN rs 0 std t = 0) ∨
      (inB t 0 1893455999 = true ∧ lastE rs 0 std t = 4 ∧ lastK rs 0 std t = 0 ∧ lastN rs 0 std t = 0))) := by
  rcases last_cases rs 0 std t with ⟨h, _⟩ | ⟨_, h⟩
  · omega
  · rcases h with ⟨h, _⟩ | ⟨_, h⟩
    · exact absurd rfl h
    · rcases h with h | ⟨h1, h⟩
      · exact .inl h
      · rcases h with h | ⟨h2, h⟩
        · exact .inr ⟨h1, .inl h⟩
        · rcases h with ⟨_, h⟩ | ⟨h3, _⟩
          · exact .inr ⟨h1, .inr ⟨h2, h⟩⟩
          · exact absurd (by show (-1 : Int) < 0; omega) h3
theorem latest_nil (a : Option Addr) (cap : Nat) (std t : Int) (w : World) :
    Calls Tryz.prog 205 #[.slice a 0 cap, .int .i64 std, .int .i64 t] w fun e w' => e = .returned (.tuple #[.int .i64 (-1), .int .i64 0]) ∧ w' = w := by
  go_enter Tryz.func205, Tryz.ntmps205
  go_wp2
  go_loop [8, 9, 16] (fun x8 x9 x => x8 = .int .i64 (-1) ∧ x9 = .int .i64 0 ∧ x = .int .i64 0) (fun _ _ _ => 0)
  case atStart => exact ⟨rfl, rfl, rfl⟩
  case round =>
    obtain ⟨rfl, rfl, rfl⟩ := hrel
    go_wp2_with fail
    go_ret2
    exact ⟨rfl, rfl⟩
theorem Rlast_nil (a : Option Addr) (cap : Nat) (std t : Int) (w : World) :
    Calls Tryz.prog 72 #[.slice a 0 cap, .int .i64 std, .int .i64 t] w fun e w' => e = .returned (.tuple #[.int .i64 0, .int .i64 0, .bool false]) ∧ w' = w := by
  go_enter Tryz.func72, Tryz.ntmps72
  go_wp2
  go_loop [9, 10, 11, 12] (fun x9 x10 x11 x => x9 = .int .i64 0 ∧ x10 = .int .i64 0 ∧ x11 = .bool false ∧ x = .int .i64 0) (fun _ _ _ _ => 0)
  case atStart => exact ⟨rfl, rfl, rfl, rfl⟩
  case round =>
    obtain ⟨rfl, rfl, rfl, rfl⟩ := hrel
    go_wp2_with fail
    go_ret3
    exact ⟨rfl, rfl⟩
theorem Last_nil (a : Option Addr) (cap : Nat) (rs : Nat → Rl) (std t : Int) (w : World) :
    Calls Tryz.prog 188 #[.slice a 0 cap, .int .i64 std, .int .i64 t] w fun e w' => e = .returned (.tuple #[.int .i64 (lastK rs 0 std t), .int .i64 (lastN rs 0 std t), .int .i64 (lastE rs 0 std t)]) ∧ Below w.heap.size w w' := by
  rcases last_nil_cases rs std t with ⟨s1, e1, e2, e3⟩ | ⟨s1, h⟩
  · rw [e1, e2, e3]
    clear e1 e2 e3
    go_enter Tryz.func188, Tryz.ntmps188
    go_wp2
    go_loop [19] (fun x => x = .int .i64 0) (fun _ => 0)
    case atStart => rfl
    case round =>
      subst hrel
      go_wp2_with (go_at_call 204; refine (isStd_c _ _).mono ?_; rintro e w ⟨rfl, rfl⟩)
      go_ret3
      exact ⟨rfl, Below.refl _ _⟩
  · rcases h with ⟨t1, e1, e2, e3⟩ | ⟨t1, e1, e2, e3⟩
    · rw [e1, e2, e3]
      clear e1 e2 e3
      have tb : t < 0 ∨ (0 ≤ t ∧ 1893456000 ≤ t) := by unfold inB at t1; simp at t1; omega
      clear t1
      rcases tb with tb | ⟨tb, tb'⟩
      all_goals
        go_enter Tryz.func188, Tryz.ntmps188
        go_wp2
        go_loop [19] (fun x => x = .int .i64 0) (fun _ => 0)
        case atStart => rfl
        case round =>
          subst hrel
          go_wp2_with (go_at_call 204; refine (isStd_c _ _).mono ?_; rintro e w ⟨rfl, rfl⟩)
          go_ret3
          exact ⟨rfl, Below.refl _ _⟩
    · rw [e1, e2, e3]
      have tb := in_of t1
      clear e1 e2 e3 t1
      have tb2 : t < 1893456000 := by omega
      go_enter Tryz.func188, Tryz.ntmps188
      go_wp2
      go_loop [19] (fun x => x = .int .i64 0) (fun _ => 0)
      case atStart => rfl
      case round =>
        subst hrel
        go_wp2_with (first
          | (go_at_call 204; refine (isStd_c _ _).mono ?_; rintro e w ⟨rfl, rfl⟩)
          | (go_at_call 205; refine (latest_nil _ _ _ _ _).mono ?_; rintro e w ⟨rfl, rfl⟩))
        go_ret3
        exact ⟨rfl, Below.refl _ _⟩
/-- a list of n rules, as a slice leads to it -/
def ARow (w : World) (a : Option Addr) (n cap : Nat) (rs : Nat → Rl) : Prop := (n = 0) ∨ ∃ b off, a = some ⟨b, off, none⟩ ∧ Row w b off n rs
theorem ARow.on {w w' : World} {a : Option Addr} {n cap : Nat} {rs : Nat → Rl} (h : ARow w a n cap rs) (hb : Below w.heap.size w w') : ARow w' a n cap rs := by
  rcases h with h | ⟨b, off, h1, h2⟩
  · exact .inl h
  · exact .inr ⟨b, off, h1, h2.on hb⟩
theorem Last_c (a : Option Addr) (n cap : Nat) (rs : Nat → Rl) (std t : Int) (w : World) (hL : Laid w) (hR : ARow w a n cap rs) (hm : n ≤ maxLen) (hz : ∀ j, j < n → (rs j).s.size ≤ maxLen) :
    Calls Tryz.prog 188 #[.slice a n cap, .int .i64 std, .int .i64 t] w fun e w' => e = .returned (.tuple #[.int .i64 (lastK rs n std t), .int .i64 (lastN rs n std t), .int .i64 (lastE rs n std t)]) ∧ Below w.heap.size w w' := by
  rcases hR with rfl | ⟨b, off, rfl, h⟩
  · exact Last_nil a cap rs std t w
  · exact Last_some b off n cap rs std t w hL h hm hz
end Go.Proofs.YtfjjdicgekgbeaaGreatDoor

/- Contracts of the statements' own spring and rulesBegun. -/
namespace Go.Proofs.YtfjjdicgekgbeaaGreatDoor
open Go Go.RowKit
set_option linter.unusedVariables false

def spr (i : Nat) : Rl := if i = 0 then ⟨1980, 2029, 3, 2, 0, 0, 7200, 3600, ⟨#[68]⟩⟩ else ⟨1980, 2029, 10, 2, 0, 0, 7200, 0, ⟨#[83]⟩⟩
theorem spring_c (w : World) : Calls Tryz.prog 55 #[] w fun e w' => e = .returned (.slice (some ⟨w.heap.size, 0, none⟩) 2 2) ∧ Row w' w.heap.size 0 2 spr ∧ Below w.heap.size w w' := by
  go_enter Tryz.func55, Tryz.ntmps55
  go_wp2
  go_ret
  refine ⟨rfl, ?_, (Below.refl _ _).alloc (Nat.le_refl _) _⟩
  intro j hj
  have h : j = 0 ∨ j = 1 := by omega
  rcases h with rfl | rfl
  · refine ⟨?_, ?_, ?_, ?_, ?_, ?_, ?_, ?_, ?_⟩ <;> simp [spr]
  · refine ⟨?_, ?_, ?_, ?_, ?_, ?_, ?_, ?_, ?_⟩ <;> simp [spr]
theorem Row.box {w : World} {b n : Nat} {rs : Nat → Rl} (h : Row w b 0 n rs) (hn : 0 < n) : RBox w b (rs 0) := by
  have := h 0 hn
  simpa [RAt, RBox] using this
theorem spr_size (j : Nat) (h : j < 2) : (spr j).s.size ≤ maxLen := by
  unfold spr maxLen
  split <;> decide
/-- the first rule of spring, its letter a digit -/
def sprX : Rl := ⟨(spr 0).f, (spr 0).t, (spr 0).m, (spr 0).k, (spr 0).wk, (spr 0).D, (spr 0).a, (spr 0).sv, ⟨#[49]⟩⟩
set_option maxRecDepth 100000 in
theorem sv1 : atR (spr 0) 2020 3600 = 1585443600 := by kernel_rfl
theorem sv2 : atE (spr 0) 2020 3600 = 0 := by kernel_rfl
theorem sv3 : lastK spr 2 3600 1585443600 = 0 := by kernel_rfl
theorem sv4 : lastN spr 2 3600 1585443600 = 1585443600 := by kernel_rfl
theorem sv5 : lastE spr 2 3600 1585443600 = 0 := by kernel_rfl
theorem sv6 : lastK spr 2 3600 1585443599 = 1 := by kernel_rfl
theorem sv7 : lastE spr 2 3600 1585443599 = 0 := by kernel_rfl
theorem sv8 : lastE spr 2 0 0 = 4 := by kernel_rfl
theorem sv9 : rchk (spr 0) = 0 := by kernel_rfl
theorem sv10 : rchk sprX = 5 := by kernel_rfl
end Go.Proofs.YtfjjdicgekgbeaaGreatDoor

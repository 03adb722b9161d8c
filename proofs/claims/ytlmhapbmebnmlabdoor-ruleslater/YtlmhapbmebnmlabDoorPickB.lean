/- Contracts of package pick: choose, in its three kinds. -/
import Derived.Test.YtlmhapbmebnmlabDoorPickA
import Derived.WalkSmall
import Derived.Deep.RegionWith
namespace Go.Proofs.YtlmhapbmebnmlabDoor
open Go Go.RowKit
set_option linter.unusedVariables false

theorem ret_ii {a b c d : Int} (h : a = b) (k : c = d) : Ending.returned (.tuple #[.int .i64 a, .int .i64 c]) = .returned (.tuple #[.int .i64 b, .int .i64 d]) := by rw [h, k]
theorem hideH {p : Prop} (h : p) : Hid p := h
abbrev dayF (b : Nat) : Value := .func (.func 38) #[] #[.pointer (some ⟨b, 0, none⟩)]
/-- the day that is chosen, of a month that begins at day f and has L days; 0: none -/
def pickd (k wk D L f : Int) : Int :=
  if k = 1 then (if D ≤ L then D else 0) else if k = 2 then L - (f + L + 3 - wk) % 7
  else if D + (wk - (f + D + 3)) % 7 ≤ L then D + (wk - (f + D + 3)) % 7 else 0

theorem choose_exact (D L : Int) (b : Nat) (w : World) :
    Calls Tryd.prog 40 #[onV 1 0 D, .int .i64 L, dayF b] w fun e w' => e = .returned (.int .i64 (if D ≤ L then D else 0)) ∧ Below w.heap.size w w' := by
  by_cases h : D ≤ L
  · rw [if_pos h]
    go_enter Tryd.func40, Tryd.ntmps40
    go_wp2
    go_ret
    exact ⟨rfl, (Below.refl _ _).alloc (Nat.le_refl _) _⟩
  · rw [if_neg h]
    go_enter Tryd.func40, Tryd.ntmps40
    go_wp2
    go_ret
    exact ⟨rfl, (Below.refl _ _).alloc (Nat.le_refl _) _⟩

set_option maxHeartbeats 2000000 in
theorem choose_last (wk D L f : Int) (b : Nat) (w : World) (hc : w.cell? ⟨b, 0, none⟩ = some (.int .i64 f)) (h1 : 0 ≤ f) (h2 : f < 21915) (h3 : 28 ≤ L) (h4 : L ≤ 31) (h5 : f + L - 1 < 21915) (k1 : 0 ≤ wk) (k2 : wk ≤ 6) :
    Calls Tryd.prog 40 #[onV 2 wk D, .int .i64 L, dayF b] w fun e w' => e = .returned (.int .i64 (L - (f + L + 3 - wk) % 7)) ∧ Below w.heap.size w w' := by
  have hb := cell_lt hc
  go_enter Tryd.func40, Tryd.ntmps40
  go_wp2_with fail
  go_loopw [7] (fun k v => ∃ j : Int, L - (f + L + 3 - wk) % 7 ≤ j ∧ j ≤ L ∧ k = .int .i64 j ∧ v.cell? ⟨b, 0, none⟩ = some (.int .i64 f) ∧ v.cell? ⟨w.heap.size, 1, none⟩ = some (.int .i64 wk) ∧ Below w.heap.size w v) (fun k _ => (intOf k).toNat)
  case atStart => exact ⟨L, by omega, by omega, rfl, by go_simp, by go_simp, (Below.refl _ _).alloc (Nat.le_refl _) _⟩
  case round =>
    obtain ⟨j, hj1, hj2, rfl, c1, c2, hB⟩ := hrel
    have hj0 : 1 ≤ j := by omega
    by_cases hlt : L - (f + L + 3 - wk) % 7 < j
    · have ht : ((f + j + 3) % 7 == wk) = false := beq_eq_false_iff_ne.2 (by omega)
      go_wp2_with fail
      go_quiet ((go_at_call 38; exact Calls.quiet_of_same (weekday_c _ f b _ (by assumption) (by omega) (by omega) (by omega) (by omega) (by omega))))
      go_wp2_with fail
      exact ⟨⟨j - 1, by omega, by omega, rfl, c1, c2, below_drewN hB _⟩, by simp [intOf]; omega⟩
    · have hj : j = L - (f + L + 3 - wk) % 7 := by omega
      have ht : ((f + j + 3) % 7 == wk) = true := beq_iff_eq.2 (by omega)
      have HJ : Hid (j = L - (f + L + 3 - wk) % 7) := hj
      clear hj hlt
      go_wp2_with fail
      go_quiet ((go_at_call 38; exact Calls.quiet_of_same (weekday_c _ f b _ (by assumption) (by omega) (by omega) (by omega) (by omega) (by omega))))
      go_wp2_with fail
      go_ret
      exact ⟨ret_int HJ.out, below_drewN hB _⟩

set_option maxHeartbeats 2000000 in
theorem choose_after (wk D L f : Int) (b : Nat) (w : World) (hc : w.cell? ⟨b, 0, none⟩ = some (.int .i64 f)) (h1 : 0 ≤ f) (h2 : f < 21915) (h3 : 28 ≤ L) (h4 : L ≤ 31) (h5 : f + L - 1 < 21915) (k1 : 0 ≤ wk) (k2 : wk ≤ 6) (d1 : 1 ≤ D) (d2 : D ≤ 31) :
    Calls Tryd.prog 40 #[onV 3 wk D, .int .i64 L, dayF b] w fun e w' => e = .returned (.int .i64 (if D + (wk - (f + D + 3)) % 7 ≤ L then D + (wk - (f + D + 3)) % 7 else 0)) ∧ Below w.heap.size w w' := by
  have hb := cell_lt hc
  have hx : D ≤ D + (wk - (f + D + 3)) % 7 ∧ D + (wk - (f + D + 3)) % 7 ≤ D + 6 ∧ (f + (D + (wk - (f + D + 3)) % 7) + 3) % 7 = wk ∧ ∀ j, D ≤ j → j < D + (wk - (f + D + 3)) % 7 → (f + j + 3) % 7 ≠ wk := by
    refine ⟨by omega, by omega, by omega, fun j a b => by omega⟩
  generalize D + (wk - (f + D + 3)) % 7 = X at *
  obtain ⟨x1, x2, x3, x4⟩ := hx
  have X3 : Hid ((f + X + 3) % 7 = wk) := x3
  have X4 : Hid (∀ j, D ≤ j → j < X → (f + j + 3) % 7 ≠ wk) := x4
  clear x3 x4
  generalize hR : (if X ≤ L then X else 0) = R
  have HR : Hid ((if X ≤ L then X else 0) = R) := hR
  clear hR
  go_enter Tryd.func40, Tryd.ntmps40
  go_wp2_with fail
  go_loopw [8] (fun k v => ∃ j : Int, D ≤ j ∧ j ≤ X ∧ k = .int .i64 j ∧ v.cell? ⟨b, 0, none⟩ = some (.int .i64 f) ∧ v.cell? ⟨w.heap.size, 1, none⟩ = some (.int .i64 wk) ∧ Below w.heap.size w v) (fun k _ => (X + 1 - intOf k).toNat)
  case atStart => exact ⟨D, by omega, by omega, rfl, by go_simp, by go_simp, (Below.refl _ _).alloc (Nat.le_refl _) _⟩
  case round =>
    obtain ⟨j, hj1, hj2, rfl, c1, c2, hB⟩ := hrel
    by_cases hL : j ≤ L
    · by_cases hlt : j < X
      · have ht : ((f + j + 3) % 7 == wk) = false := beq_eq_false_iff_ne.2 (X4.out j hj1 hlt)
        go_wp2_with fail
        go_quiet ((go_at_call 38; exact Calls.quiet_of_same (weekday_c _ f b _ (by assumption) (by omega) (by omega) (by omega) (by omega) (by omega))))
        go_wp2_with fail
        exact ⟨⟨j + 1, by omega, by omega, rfl, c1, c2, below_drewN hB _⟩, by simp [intOf]; omega⟩
      · have hj : j = X := by omega
        subst hj
        have ht : ((f + j + 3) % 7 == wk) = true := beq_iff_eq.2 X3.out
        go_wp2_with fail
        go_quiet ((go_at_call 38; exact Calls.quiet_of_same (weekday_c _ f b _ (by assumption) (by omega) (by omega) (by omega) (by omega) (by omega))))
        go_wp2_with fail
        go_ret
        exact ⟨ret_int (by rw [← HR.out, if_pos hL]), below_drewN hB _⟩
    · go_wp2_with fail
      go_ret
      exact ⟨ret_int (by rw [← HR.out, if_neg (by omega)]), hB⟩

theorem choose_c (k wk D L f : Int) (b : Nat) (w : World) (hc : w.cell? ⟨b, 0, none⟩ = some (.int .i64 f)) (h1 : 0 ≤ f) (h2 : f < 21915) (h3 : 28 ≤ L) (h4 : L ≤ 31) (h5 : f + L - 1 < 21915) (hk : chk k wk D = 0) :
    Calls Tryd.prog 40 #[onV k wk D, .int .i64 L, dayF b] w fun e w' => e = .returned (.int .i64 (pickd k wk D L f)) ∧ Below w.heap.size w w' := by
  unfold chk at hk
  have h : k = 1 ∨ k = 2 ∨ k = 3 := by omega
  rcases h with rfl | rfl | rfl
  · have : wk = 0 := by omega
    subst this
    exact choose_exact D L b w
  · exact choose_last wk D L f b w hc h1 h2 h3 h4 h5 (by omega) (by omega)
  · exact choose_after wk D L f b w hc h1 h2 h3 h4 h5 (by omega) (by omega) (by omega) (by omega)

def findR (y m k wk D : Int) : Int := if chk k wk D = 0 ∧ Cal.okB y m 1 = true then pickd k wk D (Cal.ml y m) (Cal.num y m 1) else 0
def findE (y m k wk D : Int) : Int := if chk k wk D = 0 then (if Cal.okB y m 1 = true then (if pickd k wk D (Cal.ml y m) (Cal.num y m 1) = 0 then 4 else 0) else 3) else chk k wk D

set_option maxHeartbeats 2000000 in
theorem Find_c (y m k wk D : Int) (w : World) (hL : Laid w) :
    Calls Tryd.prog 24 #[.int .i64 y, .int .i64 m, onV k wk D] w fun e w' => e = .returned (.tuple #[.int .i64 (findR y m k wk D), .int .i64 (findE y m k wk D)]) ∧ Below w.heap.size w w' := by
  rcases beq_cases (chk k wk D) 0 with ⟨hk, hk'⟩ | ⟨hk, hk'⟩
  · cases hok : Cal.okB y m 1
    · have e1 : findR y m k wk D = 0 := by simp [findR, hok]
      have e2 : findE y m k wk D = 3 := by simp [findE, hok, hk']
      have e3 : daysE y m 1 = 3 := by simp [daysE, hok]
      rw [e1, e2]
      have HL : Hid (Laid w) := hL
      clear e1 e2 hL hok hk
      go_enter Tryd.func24, Tryd.ntmps24
      go_wp2_with fail
      refine (Check_c _ _ _ _).mono ?_
      rintro e w1 ⟨rfl, hw1⟩
      have HL1 : Hid (Laid w1) := HL.out.on (bel_box hw1)
      go_wp2_with fail
      refine (Days_c _ _ _ _ HL1.out).mono ?_
      rintro e w1 ⟨rfl, rfl⟩
      go_wp2_with fail
      go_ret2
      exact ⟨rfl, (bel_box hw1).alloc (by have := hw1.size; simp at this; omega) _⟩
    · have hyr := ok_of hok
      have e3 : daysE y m 1 = 0 := by simp [daysE, hok]
      have e4 : daysR y m 1 = Cal.num y m 1 := by simp [daysR, hok]
      have hb1 := daysR_bd y m 1
      have hb2 := daysR_bd y m (Cal.ml y m)
      have hlb := Cal.ml_bd y m
      have ok2 : Cal.okB y m (Cal.ml y m) = true := ok_mk (by omega)
      have hb3 : Cal.num y m 1 + Cal.ml y m - 1 < 21915 := by
        simp only [daysR, ok2, if_true, Cal.num] at hb2; unfold Cal.num; omega
      rw [e4] at hb1
      have e1 : findR y m k wk D = pickd k wk D (Cal.ml y m) (Cal.num y m 1) := by simp [findR, hok, hk']
      have e2 : findE y m k wk D = if pickd k wk D (Cal.ml y m) (Cal.num y m 1) = 0 then 4 else 0 := by simp [findE, hok, hk']
      rw [e1, e2]
      have HL : Hid (Laid w) := hL
      have HK : Hid (chk k wk D = 0) := hk'
      obtain ⟨y1, y2, m1, m2, _, _⟩ := hyr
      clear e1 e2 hL hok hk ok2 hb2
      generalize Cal.num y m 1 = F at *
      have hP : ((pickd k wk D (Cal.ml y m) F == 0) = true ∧ Hid (pickd k wk D (Cal.ml y m) F = 0)) ∨ ((pickd k wk D (Cal.ml y m) F == 0) = false ∧ Hid (¬ pickd k wk D (Cal.ml y m) F = 0)) := by
        rcases beq_cases (pickd k wk D (Cal.ml y m) F) 0 with ⟨p1, p2⟩ | ⟨p1, p2⟩
        · exact .inl ⟨p1, p2⟩
        · exact .inr ⟨p1, p2⟩
      generalize hG : pickd k wk D (Cal.ml y m) F = G
      generalize hV : (if G = 0 then (4 : Int) else 0) = V
      have HG := hideH hG
      have HV := hideH hV
      clear hG hV
      go_enter Tryd.func24, Tryd.ntmps24
      go_wp2_with fail
      refine (Check_c _ _ _ _).mono ?_
      rintro e w1 ⟨rfl, hw1⟩
      have HL1 : Hid (Laid w1) := HL.out.on (bel_box hw1)
      obtain ⟨hcc, hff⟩ := bcell hw1
      have hsz : w.heap.size < w1.heap.size := by have := hw1.size; simp at this; omega
      go_wp2_with fail
      refine (Days_c _ _ _ _ HL1.out).mono ?_
      rintro e w1 ⟨rfl, rfl⟩
      go_wp2_with fail
      have hz : w.heap.size < (w.alloc (.cells #[.int .i64 k, .int .i64 wk, .int .i64 D] 23)).heap.size := by simp
      have c0 : (w1.alloc (.cells #[.int .i64 F] 3)).cell? ⟨w.heap.size, 0, none⟩ = some (.int .i64 k) := by have := hcc _ 0 hz; go_simp
      have c1 : (w1.alloc (.cells #[.int .i64 F] 3)).cell? ⟨w.heap.size, 1, none⟩ = some (.int .i64 wk) := by have := hcc _ 1 hz; go_simp
      have c2 : (w1.alloc (.cells #[.int .i64 F] 3)).cell? ⟨w.heap.size, 2, none⟩ = some (.int .i64 D) := by have := hcc _ 2 hz; go_simp
      have c3 : (w1.alloc (.cells #[.int .i64 F] 3)).cell? ⟨w1.heap.size, 0, none⟩ = some (.int .i64 F) := by go_simp
      have HB : Hid (Below w.heap.size w (w1.alloc (.cells #[.int .i64 F] 3))) := (bel_box hw1).alloc (by omega) _
      have HL2 : Hid (Laid (w1.alloc (.cells #[.int .i64 F] 3))) := HL.out.on HB.out
      clear hcc hff hw1 HL1 hz hsz
      generalize w1.alloc (.cells #[.int .i64 F] 3) = w2 at *
      generalize w1.heap.size = b9 at *
      go_region_with (first
        | (go_at_call 41; refine (lastDay_c _ _ _ (by exact HL2.out) y1 y2 m1 m2).mono ?_; rintro e w' ⟨rfl, rfl⟩)
        | (go_at_call 40; refine (choose_c _ _ _ _ F _ _ (by exact c3) hb1.1 hb1.2 hlb.1 hlb.2 hb3 HK.out).mono ?_; rintro e w3 ⟨rfl, hw3⟩))
      all_goals
        rcases hP with ⟨p1, P2⟩ | ⟨p1, P2⟩
        · go_wp2
          go_ret2
          exact ⟨ret_ii (by rw [← HG.out, P2.out]) (by rw [← HV.out, ← HG.out, if_pos P2.out]), bthen HB.out.drew hw3⟩
        · go_wp2
          go_ret2
          exact ⟨ret_ii HG.out (by rw [← HV.out, ← HG.out, if_neg P2.out]), bthen HB.out.drew hw3⟩
  · have e1 : findR y m k wk D = 0 := by simp [findR, hk']
    have e2 : findE y m k wk D = chk k wk D := by simp [findE, hk']
    rw [e1, e2]
    have hne : (chk k wk D != 0) = true := by rw [bne_iff_ne]; exact hk'
    clear e1 e2 hL hk'
    go_enter Tryd.func24, Tryd.ntmps24
    go_wp2_with fail
    refine (Check_c _ _ _ _).mono ?_
    rintro e w1 ⟨rfl, hw1⟩
    go_wp2_with fail
    go_ret2
    exact ⟨rfl, bel_box hw1⟩
end Go.Proofs.YtlmhapbmebnmlabDoor

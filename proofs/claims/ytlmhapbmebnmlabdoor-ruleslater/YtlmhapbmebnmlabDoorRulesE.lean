/- Contracts of package rules: latest. -/
import Derived.Test.YtlmhapbmebnmlabDoorRulesD
import Derived.Test.YtlmhapbmebnmlabDoorRMath
namespace Go.Proofs.YtlmhapbmebnmlabDoor
open Go Go.RowKit
set_option linter.unusedVariables false

/-- nine cells of a rule, from offset o on -/
def RAt (v : World) (b o : Nat) (r : Rl) : Prop :=
  v.cell? ⟨b, o, none⟩ = some (.int .i64 r.f) ∧ v.cell? ⟨b, o + 1, none⟩ = some (.int .i64 r.t) ∧ v.cell? ⟨b, o + 2, none⟩ = some (.int .i64 r.m) ∧ v.cell? ⟨b, o + 3, none⟩ = some (.int .i64 r.k) ∧ v.cell? ⟨b, o + 4, none⟩ = some (.int .i64 r.wk)
  ∧ v.cell? ⟨b, o + 5, none⟩ = some (.int .i64 r.D) ∧ v.cell? ⟨b, o + 6, none⟩ = some (.int .i64 r.a) ∧ v.cell? ⟨b, o + 7, none⟩ = some (.int .i64 r.sv) ∧ v.cell? ⟨b, o + 8, none⟩ = some (.string r.s)
theorem RAt.on {w w' : World} {b o : Nat} {r : Rl} (h : RAt w b o r) (hb : Below w.heap.size w w') : RAt w' b o r := by
  obtain ⟨h0, h1, h2, h3, h4, h5, h6, h7, h8⟩ := h
  exact ⟨cell_on h0 hb, cell_on h1 hb, cell_on h2 hb, cell_on h3 hb, cell_on h4 hb, cell_on h5 hb, cell_on h6 hb, cell_on h7 hb, cell_on h8 hb⟩
/-- n rules in a row -/
def Row (v : World) (b off n : Nat) (rs : Nat → Rl) : Prop := ∀ j, j < n → RAt v b (off + j * 9) (rs j)
theorem Row.on {w w' : World} {b off n : Nat} {rs : Nat → Rl} (h : Row w b off n rs) (hb : Below w.heap.size w w') : Row w' b off n rs := fun j hj => (h j hj).on hb

abbrev latR (rs : Nat → Rl) (std t : Int) (n : Nat) : Int × Int := Lat.lat t (fun i => (rs i).f) (fun i => (rs i).t) (fun i y => begR (rs i) y std) n
abbrev yrsR (rs : Nat → Rl) (std t : Int) (j i : Nat) : Int × Int := Lat.yrsTo t (fun y => begR (rs j) y std) j (rs j).f (latR rs std t j) i
theorem beg_bd (r : Rl) (y std : Int) (h1 : 0 ≤ r.a) (h2 : r.a ≤ 86400) (h3 : -50400 ≤ std) (h4 : std ≤ 50400) : -50400 ≤ begR r y std ∧ begR r y std ≤ 2000000000 := by
  have := daysR_bd y r.m (findR y r.m r.k r.wk r.D)
  unfold begR; omega
theorem step_pos (t : Int) (W N i n : Int) (h : n ≤ t) (k : W < 0 ∨ N ≤ n) : Lat.step t (W, N) i n = (i, n) := by unfold Lat.step; rw [if_pos ⟨h, k⟩]
theorem step_neg (t : Int) (W N i n : Int) (h : ¬ (n ≤ t ∧ (W < 0 ∨ N ≤ n))) : Lat.step t (W, N) i n = (W, N) := by unfold Lat.step; rw [if_neg h]

set_option maxHeartbeats 4000000 in
theorem latest_c (b off n cap : Nat) (rs : Nat → Rl) (std t : Int) (w : World) (hL : Laid w) (hR : Row w b off n rs) (hn : n ≤ 4) (hok : ∀ j, j < n → bnd (rs j) = true) (s1 : -50400 ≤ std) (s2 : std ≤ 50400) (t1 : 0 ≤ t) (t2 : t < 1893456000) :
    Calls Tryd.prog 30 #[.slice (some ⟨b, off, none⟩) n cap, .int .i64 std, .int .i64 t] w fun e w' => e = .returned (.tuple #[.int .i64 (latR rs std t n).1, .int .i64 (latR rs std t n).2]) ∧ Below w.heap.size w w' := by
  have HL := hideH hL
  have HR := hideH hR
  have HO := hideH hok
  clear hL hR hok
  generalize hV1 : (latR rs std t n).1 = V1
  generalize hV2 : (latR rs std t n).2 = V2
  have HV1 := hideH hV1
  have HV2 := hideH hV2
  clear hV1 hV2
  go_enter Tryd.func30, Tryd.ntmps30
  go_wp2_with fail
  go_loopw [8, 9, 16] (fun x8 x9 x16 v => ∃ (j : Nat) (W N : Int), j ≤ n ∧ x16 = .int .i64 j ∧ x8 = .int .i64 W ∧ x9 = .int .i64 N ∧ Hid (latR rs std t j = (W, N)) ∧ Hid (Laid v) ∧ Hid (Row v b off n rs) ∧ Hid (Below w.heap.size w v)) (fun _ _ x16 _ => (n - intOf x16).toNat)
  case atStart => exact ⟨0, -1, 0, by omega, rfl, rfl, rfl, rfl, HL, HR, Below.refl _ _⟩
  case round =>
    obtain ⟨j, W, N, hj, rfl, rfl, rfl, HJ, HLv, HRv, HW⟩ := hrel
    by_cases hlt : j < n
    · obtain ⟨c0, c1, c2, c3, c4, c5, c6, c7, c8⟩ := HRv.out j hlt
      have hbd := bnd_of (HO.out j hlt)
      go_wp2_with fail
      clear c0 c1 c2 c3 c4 c5 c6 c7 c8
      have hbx := hideH (rbox_new wr (rs j))
      have HA : Hid (Below wr.heap.size wr (wr.alloc (.cells (rs j).cs 25))) := (Below.refl _ _).alloc (Nat.le_refl _) _
      have H1 := hideH (bthen HW.out HA.out)
      have L1 := hideH (HLv.out.on HA.out)
      have R1 := hideH (HRv.out.on HA.out)
      have HN : Hid (((rs j).t - (rs j).f + 1).toNat = ((rs j).t - (rs j).f + 1).toNat) := rfl
      go_loopw [8, 9, 12] (fun x8 x9 x12 v => ∃ (i : Nat) (W' N' : Int), (rs j).f + i ≤ (rs j).t + 1 ∧ x12 = .int .i64 ((rs j).f + i) ∧ x8 = .int .i64 W' ∧ x9 = .int .i64 N' ∧ Hid (yrsR rs std t j i = (W', N')) ∧ Hid (Laid v) ∧ Hid (Row v b off n rs) ∧ Hid (RBox v wr.heap.size (rs j)) ∧ Hid (Below w.heap.size w v)) (fun _ _ x12 _ => ((rs j).t + 1 - intOf x12).toNat)
      case atStart => exact ⟨0, W, N, by omega, by go_num, rfl, rfl, HJ, L1, R1, hbx, H1⟩
      case round =>
        obtain ⟨i, W', N', hi, rfl, rfl, rfl, HI, HLi, HRi, HBi, HWi⟩ := hrel
        clear hbx HA H1 L1 R1
        by_cases hyt : (rs j).f + (i : Int) ≤ (rs j).t
        · obtain ⟨c0, c1, c2, c3, c4, c5, c6, c7, c8⟩ := HBi.out
          go_wp2_with fail
          refine (begin_c (rs j) _ std _ HLi.out (by omega) (by omega) s1 s2).mono ?_
          rintro e w3 ⟨rfl, hw3⟩
          have H3 := hideH (bthen HWi.out hw3)
          have L3 := hideH (HLi.out.on hw3)
          have R3 := hideH (HRi.out.on hw3)
          have B3 := hideH (HBi.out.on hw3)
          clear hw3 c0 c1 c2 c3 c4 c5 c6 c7 c8
          have HS : Hid (yrsR rs std t j (i + 1) = Lat.step t (W', N') j (begR (rs j) ((rs j).f + i) std)) := by
            show Lat.step t (yrsR rs std t j i) j (begR (rs j) ((rs j).f + i) std) = _
            rw [HI.out]
          have hbb := beg_bd (rs j) ((rs j).f + i) std (by omega) (by omega) s1 s2
          clear HI
          generalize begR (rs j) ((rs j).f + i) std = at_ at *
          by_cases q1 : at_ ≤ t
          · by_cases q2 : W' < 0
            · have HS' : Hid (yrsR rs std t j (i + 1) = ((j : Int), at_)) := by
                have := HS.out; rw [step_pos _ _ _ _ _ q1 (Or.inl q2)] at this; exact this
              go_wp2_with fail
              exact ⟨⟨i + 1, j, at_, by omega, by go_num, rfl, rfl, HS', L3, R3, B3, H3⟩, by simp [intOf]; omega⟩
            · by_cases q3 : N' ≤ at_
              · have HS' : Hid (yrsR rs std t j (i + 1) = ((j : Int), at_)) := by
                  have := HS.out; rw [step_pos _ _ _ _ _ q1 (Or.inr q3)] at this; exact this
                go_wp2_with fail
                exact ⟨⟨i + 1, j, at_, by omega, by go_num, rfl, rfl, HS', L3, R3, B3, H3⟩, by simp [intOf]; omega⟩
              · have HS' : Hid (yrsR rs std t j (i + 1) = (W', N')) := by
                  have := HS.out; rw [step_neg _ _ _ _ _ (by omega)] at this; exact this
                go_wp2_with fail
                exact ⟨⟨i + 1, W', N', by omega, by go_num, rfl, rfl, HS', L3, R3, B3, H3⟩, by simp [intOf]; omega⟩
          · have HS' : Hid (yrsR rs std t j (i + 1) = (W', N')) := by
              have := HS.out; rw [step_neg _ _ _ _ _ (by omega)] at this; exact this
            go_wp2_with fail
            exact ⟨⟨i + 1, W', N', by omega, by go_num, rfl, rfl, HS', L3, R3, B3, H3⟩, by simp [intOf]; omega⟩
        · have HE : Hid (latR rs std t (j + 1) = (W', N')) := by
            have e : ((rs j).t - (rs j).f + 1).toNat = i := by omega
            show yrsR rs std t j ((rs j).t - (rs j).f + 1).toNat = _
            rw [e]; exact HI.out
          obtain ⟨c0, c1, c2, c3, c4, c5, c6, c7, c8⟩ := HBi.out
          go_wp2_with fail
          exact ⟨⟨j + 1, W', N', by omega, by go_num, rfl, rfl, HE, HLi, HRi, HWi⟩, by simp [intOf]; omega⟩
    · have hjn : j = n := by omega
      subst hjn
      go_wp2_with fail
      go_ret2
      exact ⟨ret_ii (by rw [← HV1.out, HJ.out]) (by rw [← HV2.out, HJ.out]), HW.out⟩
end Go.Proofs.YtlmhapbmebnmlabDoor

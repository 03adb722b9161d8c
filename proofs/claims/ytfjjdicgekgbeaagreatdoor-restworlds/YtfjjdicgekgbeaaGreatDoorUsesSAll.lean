/- The document's own CheckUses. -/
import Derived.Test.YtfjjdicgekgbeaaGreatDoorUsesEAll
import Derived.Test.YtfjjdicgekgbeaaGreatDoorRefJAll
import Derived.Deep.RegionHeld3
import Derived.Deep.QuietTactic
import Derived.BigQuiet
import Derived.Test.YtfjjdicgekgbeaaGreatDoorUsesGAll
import Derived.Laws.Cover1
import Derived.Laws.OwnMore
namespace Go.Proofs.YtfjjdicgekgbeaaGreatDoor
open Go Go.RowKit Go.Maps
set_option linter.unusedVariables false

theorem fst_zoB (D : Dt) (s : ByteArray) : (zoB D s = true → ∃ j : Nat, fstN (fun j => (D.zs j).nm) s D.nz = j) ∧ (zoB D s = false → fstN (fun j => (D.zs j).nm) s D.nz = -1) := by
  unfold zoB fstN
  constructor
  · intro h
    obtain ⟨j, hj, hp⟩ := List.any_eq_true.1 h
    cases hf : (List.range D.nz).find? fun j => (D.zs j).nm.toList == s.toList with
    | none => exact absurd hp (by have := List.find?_eq_none.1 hf j hj; simpa using this)
    | some i => exact ⟨i, rfl⟩
  · intro h
    rw [List.find?_eq_none.2 (fun x hx => by have := List.any_eq_false.1 h x hx; simpa using this)]
theorem wrap_nuR {n : Int} (h0 : 0 ≤ n) (h1 : n < 9223372036854775808) : IntKind.i64.wrap n = n := by
  have h64 : IntKind.i64.bits = 64 := rfl
  have hsg : IntKind.i64.signed = true := rfl
  unfold IntKind.wrap
  rw [h64, hsg]
  simp only [Bool.true_and]
  rw [Int.emod_eq_of_lt h0 (by omega)]
  simp
  omega
theorem beq_flip {a b : List UInt8} {v : Bool} (h : (a == b) = v) : (b == a) = v := by
  rw [← h, Bool.eq_iff_iff, beq_iff_eq, beq_iff_eq]
  exact ⟨Eq.symm, Eq.symm⟩
theorem ub_no1 {x : Us} (h : ¬ (1 ≤ x.to ∧ x.to ≤ 1893456000)) : ubB x = false := decide_eq_false (fun h2 => h (by omega))
theorem ub_no2 {x : Us} (h : ¬ (0 ≤ x.fr ∧ x.fr ≤ x.to - 1)) : ubB x = false := decide_eq_false (fun h2 => h (by omega))
theorem ub_yes {x : Us} (h : 1 ≤ x.to ∧ x.to ≤ 1893456000) (h2 : 0 ≤ x.fr ∧ x.fr ≤ x.to - 1) : ubB x = true := decide_eq_true (by omega)
set_option maxRecDepth 1000000 in
set_option maxHeartbeats 8000000 in
theorem RCheckUses_c (D : Dt) (a : Option Addr) (n c : Nat) (us : Nat → Us) (w : World) (hD : DAt w D) (hF : D.fits) (hn : n ≤ maxLen) (hU : UAt w a n us) (hf : ∀ j, j < n → (us j).fits) :
    Calls Tryz.prog 15 #[D.v, .slice a n c] w fun e w' => e = .returned (.int .i64 (uchk D n us)) ∧ Below w.heap.size w w' := by
  have HD := hideH hD
  have HF := hideH hF
  have HU := hideH hU
  have HFU := hideH hf
  have hb := hideH ((Below.refl _ w).alloc (Nat.le_refl _) (.cells #[.slice D.sa D.ns D.sc, .slice D.za D.nz D.zc, .slice D.la D.nl D.lc] 26))
  have hbx := hideH (World.alloc_heap_new w (.cells #[.slice D.sa D.ns D.sc, .slice D.za D.nz D.zc, .slice D.la D.nl D.lc] 26))
  have HC : Hid (∀ v, Below w.heap.size w v → Calls Tryz.prog 28 #[D.v] v fun e w' => e = .returned (.int .i64 (chkE D)) ∧ Below v.heap.size v w') := fun v hv => CheckData_c D v (HD.out.on hv) HF.out
  have HZA : Hid (∀ s v, Below w.heap.size w v → Calls Tryz.prog 30 #[D.v, .string s] v fun e w' => e = .returned (.int .i64 (fstN (fun j => (D.zs j).nm) s D.nz)) ∧ Below v.heap.size v w') := fun s v hv => zoneAt_c D s v (HD.out.on hv) HF.out
  obtain ⟨V, hV⟩ : ∃ V, V = uchk D n us := ⟨_, rfl⟩
  rw [← hV]
  have HV := hideH hV
  unfold maxLen at hn
  clear hV hD hF hU hf
  go_enter Tryz.func15, Tryz.ntmps15
  refine wp_seq_k (fun K0 hK0 => ?_)
  have HK0 := hideH hK0
  clear hK0
  go_wp2_with fail
  refine HK0.out _ _ ?_
  clear HK0
  refine wp_seq_k (fun K1 hK1 => ?_)
  have HK1 := hideH hK1
  clear hK1
  go_wp2_with fail
  refine (HC.out _ hb.out).mono ?_
  rintro e w1 ⟨rfl, hw1⟩
  have H1 := hideH (bthen hb.out hw1)
  have C1 := hideH (heap_on hbx.out hw1)
  clear hw1 hb hbx HC
  rcases beq_cases (chkE D) 0 with ⟨q1, q2⟩ | ⟨q1, q2⟩
  · have Q0 := hideH q2
    rw [q2]
    clear q1 q2
    go_wp2_with fail
    refine HK1.out _ _ ?_
    clear HK1
    refine wp_seq_k (fun K2 hK2 => ?_)
    have HK2 := hideH hK2
    clear hK2
    by_cases h10 : n ≤ 10
    · have h10i : (n : Int) ≤ 10 := by omega
      go_wp2_with fail
      refine HK2.out _ _ ?_
      clear HK2
      have HV2 : Hid (V = if ∀ j, j < n → nameB (us j).mt = true then (if ∀ j, j < n → zoB D (us j).zn = true then (if ∀ j, j < n → ubB (us j) = true then (if novl us n then 0 else 6) else 3) else 4) else 5) := by show V = _; rw [HV.out]; unfold uchk; rw [if_pos Q0.out, if_pos h10]
      clear HV
      refine wp_seq_k (fun K3 hK3 => ?_)
      have HK3 := hideH hK3
      clear hK3
      go_wp2_with fail
      go_loop [6] (fun x6 => ∃ k : Nat, k ≤ n ∧ x6 = .int .i64 k ∧ Hid (∀ j, j < k → nameB (us j).mt = true)) (fun x6 => n - (intOf x6).toNat)
      case atStart => exact ⟨0, Nat.zero_le _, rfl, fun j hj => by omega⟩
      case round =>
        obtain ⟨k, hk, rfl, HA⟩ := hrel
        by_cases hlt : k < n
        · rcases HU.out.on H1.out with h0 | ⟨b, off, hsa, hcs⟩
          · omega
          obtain ⟨c0, c1, c2, c3⟩ := hcs k hlt
          clear hcs
          have hk0 : decide ((k : Int) < 0) = false := by simp
          have hkd : decide (n ≤ k) = false := by simp; omega
          have hki : (k : Int) < (n : Int) := by omega
          have HN := hideH (RIsName_c (us k).mt w1 (HFU.out k hlt).mt)
          cases hq : nameB (us k).mt
          · rw [hq] at HN
            have HX : Hid (V = 5) := by show V = 5; rw [HV2.out, if_neg (fun h => by have := h k hlt; rw [hq] at this; cases this)]
            clear hq
            go_wp2_with fail
            refine HN.out.mono ?_
            rintro e w1 ⟨rfl, rfl⟩
            go_wp2_with fail
            go_ret
            exact ⟨ret_int HX.out.symm, H1.out⟩
          · rw [hq] at HN
            have HA2 : Hid (∀ j, j < k + 1 → nameB (us j).mt = true) := fun j hj => by
              rcases Nat.lt_or_ge j k with h | h
              · exact HA.out j h
              · obtain rfl : j = k := by omega
                exact hq
            clear hq
            go_wp2_with fail
            refine HN.out.mono ?_
            rintro e w1 ⟨rfl, rfl⟩
            go_wp2_with fail
            try simp only [← hsa]
            go_round
            case rel => exact ⟨k + 1, by omega, by go_num, HA2⟩
            case measure => simp [intOf]; omega
        · have HV3 : Hid (V = if ∀ j, j < n → zoB D (us j).zn = true then (if ∀ j, j < n → ubB (us j) = true then (if novl us n then 0 else 6) else 3) else 4) := by show V = _; rw [HV2.out, if_pos (fun j hj => HA.out j (by omega))]
          clear HV2
          go_wp2_with fail
          refine HK3.out _ _ ?_
          clear HK3
          refine wp_seq_k (fun K4 hK4 => ?_)
          have HK4 := hideH hK4
          clear hK4
          go_wp2_with fail
          go_loopw [7] (fun x7 v => ∃ k : Nat, k ≤ n ∧ x7 = .int .i64 k ∧ Hid (Below w.heap.size w v) ∧ Hid (v.heap[w.heap.size]? = some (.cells #[.slice D.sa D.ns D.sc, .slice D.za D.nz D.zc, .slice D.la D.nl D.lc] 26)) ∧ Hid (∀ j, j < k → zoB D (us j).zn = true)) (fun x7 _ => n - (intOf x7).toNat)
          case atStart => exact ⟨0, Nat.zero_le _, rfl, H1, C1, fun j hj => by omega⟩
          case round =>
            obtain ⟨k, hk, rfl, HW, HC2, HA2⟩ := hrel
            by_cases hlt : k < n
            · rcases HU.out.on HW.out with h0 | ⟨b, off, hsa, hcs⟩
              · omega
              obtain ⟨c0, c1, c2, c3⟩ := hcs k hlt
              clear hcs c1 c2 c3
              obtain ⟨z0, z1, z2⟩ := cells3 HC2.out
              have hk0 : decide ((k : Int) < 0) = false := by simp
              have hkd : decide (n ≤ k) = false := by simp; omega
              have hki : (k : Int) < (n : Int) := by omega
              have hX : ∃ r : Int, ((∃ j : Nat, r = j) ∧ Hid (zoB D (us k).zn = true) ∨ r = -1 ∧ Hid (V = 4)) ∧ ∀ v, Below w.heap.size w v → Calls Tryz.prog 30 #[D.v, .string (us k).zn] v fun e w' => e = .returned (.int .i64 r) ∧ Below v.heap.size v w' := by
                refine ⟨_, ?_, fun v hv => HZA.out (us k).zn v hv⟩
                cases hq : zoB D (us k).zn
                · refine .inr ⟨(fst_zoB D (us k).zn).2 hq, ?_⟩
                  show V = 4
                  rw [HV3.out, if_neg (fun h => by have := h k hlt; rw [hq] at this; cases this)]
                · exact .inl ⟨(fst_zoB D (us k).zn).1 hq, rfl⟩
              obtain ⟨r, hr, hZ⟩ := hX
              have HZ := hideH hZ
              clear hZ
              rcases hr with ⟨⟨j, rfl⟩, HQ⟩ | ⟨rfl, HX⟩
              · have hj0 : (0 : Int) ≤ (j : Int) := by omega
                have HA3 : Hid (∀ i, i < k + 1 → zoB D (us i).zn = true) := fun i hi => by
                  rcases Nat.lt_or_ge i k with h | h
                  · exact HA2.out i h
                  · obtain rfl : i = k := by omega
                    exact HQ.out
                go_wp2_with fail
                go_region_held3 (fun v => v.cell? ⟨w.heap.size, 0, none⟩ = some (.slice D.sa D.ns D.sc) ∧ v.cell? ⟨w.heap.size, 1, none⟩ = some (.slice D.za D.nz D.zc) ∧ v.cell? ⟨w.heap.size, 2, none⟩ = some (.slice D.la D.nl D.lc) ∧ v.cell? ⟨b, off + k * 4, none⟩ = some (.string (us k).zn))
                  (first | (exact ⟨z0, z1, z2, c0⟩) | (exact ⟨cell_on (w := wr.drew) z0 hw2, cell_on (w := wr.drew) z1 hw2, cell_on (w := wr.drew) z2 hw2, cell_on (w := wr.drew) c0 hw2⟩))
                  (first | (go_at_call 30; refine (HZ.out _ (by exact HW.out.drew)).mono ?_; rintro e w2 ⟨rfl, hw2⟩))
                all_goals
                  have H2 := hideH (bthen (w := w) HW.out.drew hw2)
                  have C2 := hideH (heap_on (w := wr.drew) HC2.out hw2)
                  clear hw2 z0 z1 z2 c0
                  go_wp2_with fail
                  try simp only [← hsa]
                  go_roundw
                  case rel => exact ⟨k + 1, by omega, by go_num, H2, C2, HA3⟩
                  case measure => simp [intOf]; omega
              · go_wp2_with fail
                go_region_held3 (fun v => v.cell? ⟨w.heap.size, 0, none⟩ = some (.slice D.sa D.ns D.sc) ∧ v.cell? ⟨w.heap.size, 1, none⟩ = some (.slice D.za D.nz D.zc) ∧ v.cell? ⟨w.heap.size, 2, none⟩ = some (.slice D.la D.nl D.lc) ∧ v.cell? ⟨b, off + k * 4, none⟩ = some (.string (us k).zn))
                  (first | (exact ⟨z0, z1, z2, c0⟩) | (exact ⟨cell_on (w := wr.drew) z0 hw2, cell_on (w := wr.drew) z1 hw2, cell_on (w := wr.drew) z2 hw2, cell_on (w := wr.drew) c0 hw2⟩))
                  (first | (go_at_call 30; refine (HZ.out _ (by exact HW.out.drew)).mono ?_; rintro e w2 ⟨rfl, hw2⟩))
                all_goals
                  go_wp2_with fail
                  go_ret
                  exact ⟨ret_int HX.out.symm, bthen (w := w) HW.out.drew hw2⟩
            · have HV4 : Hid (V = if ∀ j, j < n → ubB (us j) = true then (if novl us n then 0 else 6) else 3) := by show V = _; rw [HV3.out, if_pos (fun j hj => HA2.out j (by omega))]
              clear HV3 HC2
              go_wp2_with fail
              refine HK4.out _ _ ?_
              clear HK4
              refine wp_seq_k (fun K5 hK5 => ?_)
              have HK5 := hideH hK5
              clear hK5
              obtain ⟨wq, hwq⟩ : ∃ wq, wq = wr := ⟨_, rfl⟩
              subst hwq
              go_wp2_with fail
              go_loopw [8] (fun x8 v => ∃ k : Nat, k ≤ n ∧ x8 = .int .i64 k ∧ Hid (Below w.heap.size w v) ∧ Hid (∀ j, j < k → ubB (us j) = true)) (fun x8 _ => n - (intOf x8).toNat)
              case atStart => exact ⟨0, Nat.zero_le _, rfl, HW, fun j hj => by omega⟩
              case round =>
                obtain ⟨k, hk, rfl, HW2, HA3⟩ := hrel
                by_cases hlt : k < n
                · rcases HU.out.on HW2.out with h0 | ⟨b, off, hsa, hcs⟩
                  · omega
                  obtain ⟨c0, c1, c2, c3⟩ := hcs k hlt
                  clear hcs c0 c3
                  have hk0 : decide ((k : Int) < 0) = false := by simp
                  have hkd : decide (n ≤ k) = false := by simp; omega
                  have hki : (k : Int) < (n : Int) := by omega
                  have hfit := (HFU.out k hlt).to
                  by_cases q1 : 1 ≤ (us k).to ∧ (us k).to ≤ 1893456000
                  · have hin1 := in_mk q1
                    have hw1 : IntKind.i64.wrap ((us k).to - 1) = (us k).to - 1 := wrap_nuR (by omega) (by omega)
                    by_cases q2 : 0 ≤ (us k).fr ∧ (us k).fr ≤ (us k).to - 1
                    · have hin2 := in_mk q2
                      have HA4 : Hid (∀ i, i < k + 1 → ubB (us i) = true) := fun i hi => by
                        rcases Nat.lt_or_ge i k with h | h
                        · exact HA3.out i h
                        · obtain rfl : i = k := by omega
                          exact ub_yes q1 q2
                      clear q1 q2
                      go_wp2_with fail
                      go_quiet (exact Calls.quiet_of_same (within_c _ _ _ _))
                      go_wp2_with fail
                      try simp only [← hsa]
                      go_roundw
                      case rel => exact ⟨k + 1, by omega, by go_num, below_drewN HW2.out _, HA4⟩
                      case measure => simp [intOf]; omega
                    · have hin2 := in_not q2
                      have HX : Hid (V = 3) := by show V = 3; rw [HV4.out, if_neg (fun h => by have := h k hlt; rw [ub_no2 q2] at this; cases this)]
                      clear q1 q2
                      go_wp2_with fail
                      go_quiet (exact Calls.quiet_of_same (within_c _ _ _ _))
                      go_wp2_with fail
                      go_ret
                      exact ⟨ret_int HX.out.symm, below_drewN HW2.out _⟩
                  · have hin1 := in_not q1
                    have HX : Hid (V = 3) := by show V = 3; rw [HV4.out, if_neg (fun h => by have := h k hlt; rw [ub_no1 q1] at this; cases this)]
                    clear q1
                    go_wp2_with fail
                    go_quiet (exact Calls.quiet_of_same (within_c _ _ _ _))
                    go_wp2_with fail
                    go_ret
                    exact ⟨ret_int HX.out.symm, below_drewN HW2.out _⟩
                · have HV5 : Hid (V = if novl us n then 0 else 6) := by show V = _; rw [HV4.out, if_pos (fun j hj => HA3.out j (by omega))]
                  clear HV4
                  go_wp2_with fail
                  refine HK5.out _ _ ?_
                  clear HK5
                  refine wp_seq_k (fun K6 hK6 => ?_)
                  have HK6 := hideH hK6
                  clear hK6
                  obtain ⟨wp, hwp⟩ : ∃ wp, wp = wr := ⟨_, rfl⟩
                  subst hwp
                  go_wp2_with fail
                  go_loopw [9] (fun x9 v => ∃ k : Nat, k ≤ n ∧ x9 = .int .i64 k ∧ Hid (Below w.heap.size w v) ∧ Hid (∀ i, i < k → ∀ m, m < i → ovB (us i) (us m) = false)) (fun x9 _ => n - (intOf x9).toNat)
                  case atStart => exact ⟨0, Nat.zero_le _, rfl, HW2, fun j hj => by omega⟩
                  case round =>
                    obtain ⟨k, hk, rfl, HW3, HA4⟩ := hrel
                    by_cases hlt : k < n
                    · obtain ⟨wo, hwo⟩ : ∃ wo, wo = wr := ⟨_, rfl⟩
                      subst hwo
                      go_wp2_with fail
                      go_loopw [10] (fun x10 v => ∃ i : Nat, i ≤ k ∧ x10 = .int .i64 i ∧ Hid (Below w.heap.size w v) ∧ Hid (∀ m, m < i → ovB (us k) (us m) = false)) (fun x10 _ => k - (intOf x10).toNat)
                      case atStart => exact ⟨0, Nat.zero_le _, rfl, HW3, fun j hj => by omega⟩
                      case round =>
                        obtain ⟨i, hi, rfl, HW4, HB⟩ := hrel
                        by_cases hik : i < k
                        · rcases HU.out.on HW4.out with h0 | ⟨b, off, hsa, hcs⟩
                          · omega
                          obtain ⟨c0, c1, c2, c3⟩ := hcs k hlt
                          obtain ⟨d0, d1, d2, d3⟩ := hcs i (by omega)
                          clear hcs c3 d3
                          have hk0 : decide ((k : Int) < 0) = false := by simp
                          have hkd : decide (n ≤ k) = false := by simp; omega
                          have hki : (k : Int) < (n : Int) := by omega
                          have hi0 : decide ((i : Int) < 0) = false := by simp
                          have hid : decide (n ≤ i) = false := by simp; omega
                          have hii : (i : Int) < (n : Int) := by omega
                          have hikI : (i : Int) < (k : Int) := by omega
                          have HX0 : Hid (ovB (us k) (us i) = true → V = 6) := fun h => by
                            rw [HV5.out, if_neg (fun h2 => by have := h2 k hlt i hik; rw [h] at this; cases this)]
                          have HB0 : Hid (ovB (us k) (us i) = false → ∀ m, m < i + 1 → ovB (us k) (us m) = false) := fun h m hm => by
                            rcases Nat.lt_or_ge m i with h3 | h3
                            · exact HB.out m h3
                            · obtain rfl : m = i := by omega
                              exact h
                          cases hq : ((us i).zn.toList == (us k).zn.toList)
                          · have HB2 := hideH (HB0.out (ov_eq (beq_flip hq)))
                            clear HX0 HB0
                            go_wp2_with fail
                            go_quiet (fail)
                            go_wp2_with fail
                            try simp only [← hsa]
                            go_roundw
                            case rel => exact ⟨i + 1, by omega, by go_num, below_drewN HW4.out _, HB2⟩
                            case measure => simp [intOf]; omega
                          · by_cases h1 : (us i).fr < (us k).to
                            · by_cases h2 : (us k).fr < (us i).to
                              · have HX := hideH (HX0.out (ov_yes (beq_flip hq) ⟨h2, h1⟩))
                                clear HX0 HB0
                                go_wp2_with fail
                                go_quiet (fail)
                                go_wp2_with fail
                                go_ret
                                exact ⟨ret_int HX.out.symm, below_drewN HW4.out _⟩
                              · have HB2 := hideH (HB0.out (ov_no (fun h => h2 h.1)))
                                clear HX0 HB0
                                go_wp2_with fail
                                go_quiet (fail)
                                go_wp2_with fail
                                try simp only [← hsa]
                                go_roundw
                                case rel => exact ⟨i + 1, by omega, by go_num, below_drewN HW4.out _, HB2⟩
                                case measure => simp [intOf]; omega
                            · have HB2 := hideH (HB0.out (ov_no (fun h => h1 h.2)))
                              clear HX0 HB0
                              go_wp2_with fail
                              have h1f : ((us i).fr < (us k).to) = False := eq_false (by omega)
                              go_quiet (fail)
                              go_wp2_with fail
                              try simp only [← hsa]
                              go_roundw
                              case rel => exact ⟨i + 1, by omega, by go_num, below_drewN HW4.out _, HB2⟩
                              case measure => simp [intOf]; omega
                        · have HA5 : Hid (∀ p, p < k + 1 → ∀ m, m < p → ovB (us p) (us m) = false) := fun p hp m hm => by
                            rcases Nat.lt_or_ge p k with h | h
                            · exact HA4.out p h m hm
                            · obtain rfl : p = k := by omega
                              exact HB.out m (by omega)
                          go_wp2_with fail
                          go_roundw
                          case rel => exact ⟨k + 1, by omega, by go_num, HW4, HA5⟩
                          case measure => simp [intOf]; omega
                    · have HX : Hid (V = 0) := by show V = 0; rw [HV5.out, if_pos (fun i hi m hm => HA4.out i (by omega) m hm)]
                      go_wp2_with fail
                      refine HK6.out _ _ ?_
                      clear HK6
                      go_wp2_with fail
                      go_ret
                      exact ⟨ret_int HX.out.symm, HW3.out⟩
    · have HX : Hid (V = 2) := by show V = 2; rw [HV.out]; unfold uchk; rw [if_pos Q0.out, if_neg h10]
      have h11 : (10 : Int) < (n : Int) := by omega
      go_wp2_with fail
      go_ret
      exact ⟨ret_int HX.out.symm, H1.out⟩
  · have HX : Hid (V = chkE D) := by show V = _; rw [HV.out]; unfold uchk; rw [if_neg q2]
    have hne : (chkE D != 0) = true := by rw [bne_iff_ne]; exact q2
    clear q1 q2
    go_wp2_with fail
    go_ret
    exact ⟨ret_int HX.out.symm, H1.out⟩
end Go.Proofs.YtfjjdicgekgbeaaGreatDoor

/- The document's own metaOf. -/
namespace Go.Proofs.YtfjjdicgekgbeaaGreatDoor
open Go Go.RowKit Go.Maps
set_option linter.unusedVariables false

set_option maxHeartbeats 4000000 in
theorem RmetaOf_c (a : Option Addr) (n c : Nat) (us : Nat → Us) (z : ByteArray) (t : Int) (w : World) (hn : n ≤ 10) (hP : UAt w a n us) : Calls Tryz.prog 48 #[.slice a n c, .string z, .int .i64 t] w fun e w' => e = .returned (.string (metR us n z t)) ∧ Below w.heap.size w w' := by
  have HP := hideH hP
  clear hP
  generalize hV : metR us n z t = V
  have HV := hideH hV
  clear hV
  go_enter Tryz.func48, Tryz.ntmps48
  go_wp2_with fail
  go_loopw [7] (fun x7 wr => ∃ j : Nat, j ≤ n ∧ x7 = .int .i64 j ∧ Hid (∀ i, i < j → hasB (us i) z t = false) ∧ Hid (Below w.heap.size w wr)) (fun x7 _ => n - (intOf x7).toNat)
  case atStart => exact ⟨0, Nat.zero_le _, rfl, fun i hi => by omega, Below.refl _ _⟩
  case round =>
    obtain ⟨j, hj, rfl, HA, HW⟩ := hrel
    by_cases hlt : j < n
    · rcases HP.out.on HW.out with h0 | ⟨b, off, hsa, hcs⟩
      · omega
      obtain ⟨c0, c1, c2, c3⟩ := hcs j hlt
      clear hcs
      have hk0 : decide ((j : Int) < 0) = false := by simp
      have hkd : decide (n ≤ j) = false := by simp; omega
      have hki : (j : Int) < (n : Int) := by omega
      have HX0 : Hid (hasB (us j) z t = true → V = (us j).mt) := fun h => by
        rw [← HV.out]; unfold metR; rw [ufind hlt h HA.out]
      have HA0 : Hid (hasB (us j) z t = false → ∀ i, i < j + 1 → hasB (us i) z t = false) := fun h i hi => by
        rcases Nat.lt_or_ge i j with h3 | h3
        · exact HA.out i h3
        · obtain rfl : i = j := by omega
          exact h
      cases hq : ((us j).zn.toList == z.toList)
      · have HA2 := hideH (HA0.out (has_eq hq))
        clear HX0 HA0
        go_wp2_with fail
        try (go_quiet (fail); go_wp2_with fail)
        try simp only [← hsa]
        go_roundw
        case rel => exact ⟨j + 1, by omega, by go_num, HA2, by first | exact HW | exact below_drewN HW.out _⟩
        case measure => simp [intOf]; omega
      · by_cases h1 : (us j).fr ≤ t
        · by_cases h2 : t < (us j).to
          · have HX := hideH (HX0.out (has_yes hq ⟨h1, h2⟩))
            clear HX0 HA0
            go_wp2_with fail
            try (go_quiet (fail); go_wp2_with fail)
            go_ret
            exact ⟨by rw [HX.out] <;> rfl, by first | exact HW.out | exact below_drewN HW.out _⟩
          · have HA2 := hideH (HA0.out (has_no (fun h => h2 h.2)))
            clear HX0 HA0
            go_wp2_with fail
            try (go_quiet (fail); go_wp2_with fail)
            try simp only [← hsa]
            go_roundw
            case rel => exact ⟨j + 1, by omega, by go_num, HA2, by first | exact HW | exact below_drewN HW.out _⟩
            case measure => simp [intOf]; omega
        · have HA2 := hideH (HA0.out (has_no (fun h => h1 h.1)))
          clear HX0 HA0
          go_wp2_with fail
          try (go_quiet (fail); go_wp2_with fail)
          try simp only [← hsa]
          go_roundw
          case rel => exact ⟨j + 1, by omega, by go_num, HA2, by first | exact HW | exact below_drewN HW.out _⟩
          case measure => simp [intOf]; omega
    · have HX : Hid (V = ⟨#[]⟩) := by
        show V = _
        rw [← HV.out]
        unfold metR
        rw [List.find?_eq_none.2 (fun x hx => by rw [HA.out x (by have := List.mem_range.1 hx; omega)]; decide)]
      go_wp2_with fail
      go_ret
      exact ⟨by rw [HX.out] <;> rfl, HW.out⟩
end Go.Proofs.YtfjjdicgekgbeaaGreatDoor

/- The document's own UsesError and MetaOf. -/
namespace Go.Proofs.YtfjjdicgekgbeaaGreatDoor
open Go Go.RowKit Go.Maps
set_option linter.unusedVariables false
theorem fol_zon {D : Dt} (hc : chkE D = 0) (s : ByteArray) : (zonE D s = 0 ∧ ∃ k : Nat, folR (leadK D (D.nl + 1) s) = k ∧ zonR D s = k ∧ k < D.nz) ∨ (zonE D s = 4 ∧ folR (leadK D (D.nl + 1) s) = -1) := by
  have e : zonE D s = (leadK D (D.nl + 1) s).2 := by unfold zonE; rw [if_pos hc]
  rcases lead_04 hc s with h | h
  · left
    refine ⟨e.trans h, ?_⟩
    obtain ⟨k, hk, hkz⟩ := zonE_in (e.trans h)
    refine ⟨k, ?_, hk, hkz⟩
    rw [folR_ok h, ← hk]
    unfold zonR
    rw [if_pos hc, if_pos h]
  · right
    exact ⟨e.trans h, folR_no (by omega)⟩
end Go.Proofs.YtfjjdicgekgbeaaGreatDoor

/- The document's own sorted. -/
namespace Go.Proofs.YtfjjdicgekgbeaaGreatDoor
open Go Go.RowKit Go.Maps
set_option linter.unusedVariables false

abbrev Srt (l : List (List UInt8)) : Prop := l.Pairwise fun a b => a ≤ b
theorem srt_srt (l : List (List UInt8)) : Srt (srt l) := by
  have h1 : (srt l).Pairwise fun a b => decide (a ≤ b) = true := List.pairwise_mergeSort (fun a b c h1 h2 => by
    simp only [decide_eq_true_eq] at h1 h2 ⊢
    exact List.le_trans h1 h2) (fun a b => by
    simp only [Bool.or_eq_true, decide_eq_true_eq]
    exact List.le_total a b) l
  exact h1.imp (fun h => by simpa using h)
theorem srt_uniq : ∀ {a b : List (List UInt8)}, a.Perm b → Srt a → Srt b → a = b
  | [], b, hp, _, _ => (List.Perm.nil_eq hp)
  | x :: a, [], hp, _, _ => absurd hp.length_eq (by simp)
  | x :: a, y :: b, hp, h1, h2 => by
    obtain ⟨p1, p2⟩ := List.pairwise_cons.1 h1
    obtain ⟨q1, q2⟩ := List.pairwise_cons.1 h2
    have hx : x ∈ y :: b := hp.subset (by simp)
    have hy : y ∈ x :: a := hp.symm.subset (by simp)
    have e : x = y := by
      rcases List.mem_cons.1 hx with h | h
      · exact h
      · rcases List.mem_cons.1 hy with h' | h'
        · exact h'.symm
        · exact List.le_antisymm (p1 y h') (q1 x h)
    subst e
    rw [srt_uniq hp.cons_inv p2 q2]
theorem less_triU : ∀ a b : List UInt8, (Op.bytesLess a b || a == b) = !Op.bytesLess b a
  | [], [] => by simp [Op.bytesLess]
  | [], _ :: _ => by simp [Op.bytesLess]
  | _ :: _, [] => by simp [Op.bytesLess]
  | x :: a, y :: b => by
    have ih := less_triU a b
    by_cases h1 : x = y
    · subst h1
      have : ¬ (x < x) := UInt8.lt_irrefl x
      simp only [Op.bytesLess, this, decide_false, beq_self_eq_true, Bool.true_and, Bool.false_or]
      rw [← ih]
      simp
    · have h2 : (x == y) = false := beq_eq_false_iff_ne.2 h1
      have h3 : (y == x) = false := beq_eq_false_iff_ne.2 (fun e => h1 e.symm)
      rcases UInt8.lt_or_lt_of_ne h1 with h | h
      · have h4 : ¬ (y < x) := fun h5 => UInt8.lt_irrefl _ (UInt8.lt_trans h h5)
        simp [Op.bytesLess, h, h2, h3, h4]
      · have h4 : ¬ (x < y) := fun h5 => UInt8.lt_irrefl _ (UInt8.lt_trans h h5)
        simp [Op.bytesLess, h, h2, h3, h4]
theorem gtr_less (a b : List UInt8) : (!Op.bytesLess a b && !a == b) = Op.bytesLess b a := by
  rw [← Bool.not_or, less_triU, Bool.not_not]
theorem lt_lessU : ∀ a b : List UInt8, Op.bytesLess a b = true ↔ a < b
  | [], [] => by simp [Op.bytesLess]
  | [], _ :: _ => by simp [Op.bytesLess]
  | _ :: _, [] => by simp [Op.bytesLess]
  | x :: a, y :: b => by
    rw [List.cons_lt_cons_iff, ← lt_lessU a b]
    simp [Op.bytesLess]
theorem le_lessU {a b : List UInt8} (h : Op.bytesLess b a = false) : a ≤ b := by
  rcases List.le_total a b with h1 | h1
  · exact h1
  · rcases List.le_iff_lt_or_eq.1 h1 with h2 | h2
    · rw [(lt_lessU b a).2 h2] at h; cases h
    · rw [h2]; exact List.le_refl _
/-- one has come to its place -/
theorem ins_done {A B S : List (List UInt8)} {v : List UInt8} {l : List (List UInt8)} (hs : Srt (A ++ B)) (hb : ∀ b ∈ B, v < b) (ha : ∀ u ∈ A, u ≤ v) (hp : (A ++ B).Perm (srt l)) : A ++ v :: B = srt (l ++ [v]) := by
  refine srt_uniq ?_ ?_ (srt_srt _)
  · have h1 : (A ++ v :: B).Perm (v :: (A ++ B)) := List.perm_middle
    have h2 : (srt (l ++ [v])).Perm (l ++ [v]) := List.mergeSort_perm _ _
    have h3 : (srt l).Perm l := List.mergeSort_perm _ _
    refine h1.trans (((hp.trans h3).cons v).trans ?_)
    exact (List.perm_append_singleton v l).symm.trans h2.symm
  · unfold Srt at hs ⊢
    rw [List.pairwise_append] at hs ⊢
    obtain ⟨s1, s2, s3⟩ := hs
    refine ⟨s1, List.pairwise_cons.2 ⟨fun b hb' => List.le_of_lt (hb b hb'), s2⟩, ?_⟩
    intro u hu x hx
    rcases List.mem_cons.1 hx with rfl | hx
    · exact ha u hu
    · exact s3 u hu x hx
theorem row_swap {A B : List (List UInt8)} {u v : List UInt8} : (((A ++ [u] ++ v :: B).map encStr).set A.length (encStr v)).set (A.length + 1) (encStr u) = (A ++ v :: u :: B).map encStr := by
  rw [List.append_assoc, List.map_append, List.map_append]
  have hl : (A.map encStr).length = A.length := by simp
  rw [← hl, List.set_append_right _ _ (Nat.le_refl _), Nat.sub_self, List.set_append_right _ _ (by omega), show (A.map encStr).length + 1 - (A.map encStr).length = 1 by omega, List.map_append (l₁ := A)]
  rfl
theorem swap_own {w : World} {base n g c p : Nat} {A B : List (List UInt8)} {u v : List UInt8} (hp : p = A.length) (h : w.ownsRow base 9 1 (.slice (some ⟨g, 0, none⟩) n c) n ((A ++ [u] ++ v :: B).map encStr)) : ((w.setCell ⟨g, p, none⟩ (.string ⟨v.toArray⟩)).setCell ⟨g, p + 1, none⟩ (.string ⟨u.toArray⟩)).ownsRow base 9 1 (.slice (some ⟨g, 0, none⟩) n c) n ((A ++ v :: u :: B).map encStr) := by
  have h1 := ((h.stored p (.string ⟨v.toArray⟩)).1.stored (p + 1) (.string ⟨u.toArray⟩)).1
  have h2 := row_swap (A := A) (B := B) (u := u) (v := v)
  rw [← hp] at h2
  rw [show (((A ++ [u] ++ v :: B).map encStr).set p (.string ⟨v.toArray⟩)).set (p + 1) (.string ⟨u.toArray⟩) = (A ++ v :: u :: B).map encStr from h2] at h1
  exact h1
theorem wrap_nuS {n : Int} (h0 : 0 ≤ n) (h1 : n < 9223372036854775808) : IntKind.i64.wrap n = n := by
  have h64 : IntKind.i64.bits = 64 := rfl
  have hsg : IntKind.i64.signed = true := rfl
  unfold IntKind.wrap
  rw [h64, hsg]
  simp only [Bool.true_and]
  rw [Int.emod_eq_of_lt h0 (by omega)]
  simp
  omega
theorem take_one {l : List (List UInt8)} {k : Nat} (h : k < l.length) : l.take (k + 1) = l.take k ++ [l[k]?.getD []] := by
  rw [List.take_add_one, List.getElem?_eq_getElem h]
  rfl
def sorP (l : List (List UInt8)) (w : World) (e : Ending) (w' : World) : Prop := ∃ a c, e = .returned (.slice a l.length c) ∧ l.length ≤ c ∧ TX w' a l ∧ Below w.heap.size w w'
end Go.Proofs.YtfjjdicgekgbeaaGreatDoor

/- The document's own ZonesOf. -/
namespace Go.Proofs.YtfjjdicgekgbeaaGreatDoor
open Go Go.RowKit Go.Maps
set_option linter.unusedVariables false
end Go.Proofs.YtfjjdicgekgbeaaGreatDoor

/- The document's own CheckUses. -/
import Derived.Test.YtmpiijipebngcaaGreatDoorUsesEAll
import Derived.Test.YtmpiijipebngcaaGreatDoorRefJAll
import Derived.Deep.RegionHeld3
import Derived.Deep.QuietTactic
import Derived.BigQuiet
namespace Go.Proofs.YtmpiijipebngcaaGreatDoor
open Go Go.RowKit Go.Maps
set_option linter.unusedVariables false

theorem fst_zoB (D : Dt) (s : ByteArray) : (zoB D s = true → ∃ j : Nat, fstN (fun j => (D.zs j).nm) s D.nz = j) ∧ (zoB D s = false → fstN (fun j => (D.zs j).nm) s D.nz = -1) := by
  unfold zoB fstN
  constructor
  · intro h
    obtain ⟨j, hj, hp⟩ := List.any_eq_true.1 h
    cases hf : (List.range D.nz).find? fun j => (D.zs j).nm.toList == s.toList with
    | none => exact absurd hp (by have := List.find?_eq_none.1 hf j hj; simpa using this)
    | some i => exact ⟨i, rfl⟩
  · intro h
    rw [List.find?_eq_none.2 (fun x hx => by have := List.any_eq_false.1 h x hx; simpa using this)]
theorem wrap_nuR {n : Int} (h0 : 0 ≤ n) (h1 : n < 9223372036854775808) : IntKind.i64.wrap n = n := by
  have h64 : IntKind.i64.bits = 64 := rfl
  have hsg : IntKind.i64.signed = true := rfl
  unfold IntKind.wrap
  rw [h64, hsg]
  simp only [Bool.true_and]
  rw [Int.emod_eq_of_lt h0 (by omega)]
  simp
  omega
theorem beq_flip {a b : List UInt8} {v : Bool} (h : (a == b) = v) : (b == a) = v := by
  rw [← h, Bool.eq_iff_iff, beq_iff_eq, beq_iff_eq]
  exact ⟨Eq.symm, Eq.symm⟩
theorem ub_no1 {x : Us} (h : ¬ (1 ≤ x.to ∧ x.to ≤ 1893456000)) : ubB x = false := decide_eq_false (fun h2 => h (by omega))
theorem ub_no2 {x : Us} (h : ¬ (0 ≤ x.fr ∧ x.fr ≤ x.to - 1)) : ubB x = false := decide_eq_false (fun h2 => h (by omega))
theorem ub_yes {x : Us} (h : 1 ≤ x.to ∧ x.to ≤ 1893456000) (h2 : 0 ≤ x.fr ∧ x.fr ≤ x.to - 1) : ubB x = true := decide_eq_true (by omega)
set_option maxRecDepth 1000000 in
set_option maxHeartbeats 8000000 in
theorem RCheckUses_c (D : Dt) (a : Option Addr) (n c : Nat) (us : Nat → Us) (w : World) (hD : DAt w D) (hF : D.fits) (hn : n ≤ maxLen) (hU : UAt w a n us) (hf : ∀ j, j < n → (us j).fits) :
    Calls Tryz.prog 44 #[D.v, .slice a n c] w fun e w' => e = .returned (.int .i64 (uchk D n us)) ∧ Below w.heap.size w w' := by
  have HD := hideH hD
  have HF := hideH hF
  have HU := hideH hU
  have HFU := hideH hf
  have hb := hideH ((Below.refl _ w).alloc (Nat.le_refl _) (.cells #[.slice D.sa D.ns D.sc, .slice D.za D.nz D.zc, .slice D.la D.nl D.lc] 26))
  have hbx := hideH (World.alloc_heap_new w (.cells #[.slice D.sa D.ns D.sc, .slice D.za D.nz D.zc, .slice D.la D.nl D.lc] 26))
  have HC : Hid (∀ v, Below w.heap.size w v → Calls Tryz.prog 93 #[D.v] v fun e w' => e = .returned (.int .i64 (chkE D)) ∧ Below v.heap.size v w') := fun v hv => CheckData_c D v (HD.out.on hv) HF.out
  have HZA : Hid (∀ s v, Below w.heap.size w v → Calls Tryz.prog 67 #[D.v, .string s] v fun e w' => e = .returned (.int .i64 (fstN (fun j => (D.zs j).nm) s D.nz)) ∧ Below v.heap.size v w') := fun s v hv => zoneAt_c D s v (HD.out.on hv) HF.out
  obtain ⟨V, hV⟩ : ∃ V, V = uchk D n us := ⟨_, rfl⟩
  rw [← hV]
  have HV := hideH hV
  unfold maxLen at hn
  clear hV hD hF hU hf
  go_enter Tryz.func44, Tryz.ntmps44
  refine wp_seq_k (fun K0 hK0 => ?_)
  have HK0 := hideH hK0
  clear hK0
  go_wp2_with fail
  refine HK0.out _ _ ?_
  clear HK0
  refine wp_seq_k (fun K1 hK1 => ?_)
  have HK1 := hideH hK1
  clear hK1
  go_wp2_with fail
  refine (HC.out _ hb.out).mono ?_
  rintro e w1 ⟨rfl, hw1⟩
  have H1 := hideH (bthen hb.out hw1)
  have C1 := hideH (heap_on hbx.out hw1)
  clear hw1 hb hbx HC
  rcases beq_cases (chkE D) 0 with ⟨q1, q2⟩ | ⟨q1, q2⟩
  · have Q0 := hideH q2
    rw [q2]
    clear q1 q2
    go_wp2_with fail
    refine HK1.out _ _ ?_
    clear HK1
    refine wp_seq_k (fun K2 hK2 => ?_)
    have HK2 := hideH hK2
    clear hK2
    by_cases h10 : n ≤ 10
    · have h10i : (n : Int) ≤ 10 := by omega
      go_wp2_with fail
      refine HK2.out _ _ ?_
      clear HK2
      have HV2 : Hid (V = if ∀ j, j < n → nameB (us j).mt = true then (if ∀ j, j < n → zoB D (us j).zn = true then (if ∀ j, j < n → ubB (us j) = true then (if novl us n then 0 else 6) else 3) else 4) else 5) := by show V = _; rw [HV.out]; unfold uchk; rw [if_pos Q0.out, if_pos h10]
      clear HV
      refine wp_seq_k (fun K3 hK3 => ?_)
      have HK3 := hideH hK3
      clear hK3
      go_wp2_with fail
      go_loop [6] (fun x6 => ∃ k : Nat, k ≤ n ∧ x6 = .int .i64 k ∧ Hid (∀ j, j < k → nameB (us j).mt = true)) (fun x6 => n - (intOf x6).toNat)
      case atStart => exact ⟨0, Nat.zero_le _, rfl, fun j hj => by omega⟩
      case round =>
        obtain ⟨k, hk, rfl, HA⟩ := hrel
        by_cases hlt : k < n
        · rcases HU.out.on H1.out with h0 | ⟨b, off, hsa, hcs⟩
          · omega
          obtain ⟨c0, c1, c2, c3⟩ := hcs k hlt
          clear hcs
          have hk0 : decide ((k : Int) < 0) = false := by simp
          have hkd : decide (n ≤ k) = false := by simp; omega
          have hki : (k : Int) < (n : Int) := by omega
          have HN := hideH (RIsName_c (us k).mt w1 (HFU.out k hlt).mt)
          cases hq : nameB (us k).mt
          · rw [hq] at HN
            have HX : Hid (V = 5) := by show V = 5; rw [HV2.out, if_neg (fun h => by have := h k hlt; rw [hq] at this; cases this)]
            clear hq
            go_wp2_with fail
            refine HN.out.mono ?_
            rintro e w1 ⟨rfl, rfl⟩
            go_wp2_with fail
            go_ret
            exact ⟨ret_int HX.out.symm, H1.out⟩
          · rw [hq] at HN
            have HA2 : Hid (∀ j, j < k + 1 → nameB (us j).mt = true) := fun j hj => by
              rcases Nat.lt_or_ge j k with h | h
              · exact HA.out j h
              · obtain rfl : j = k := by omega
                exact hq
            clear hq
            go_wp2_with fail
            refine HN.out.mono ?_
            rintro e w1 ⟨rfl, rfl⟩
            go_wp2_with fail
            try simp only [← hsa]
            go_round
            case rel => exact ⟨k + 1, by omega, by go_num, HA2⟩
            case measure => simp [intOf]; omega
        · have HV3 : Hid (V = if ∀ j, j < n → zoB D (us j).zn = true then (if ∀ j, j < n → ubB (us j) = true then (if novl us n then 0 else 6) else 3) else 4) := by show V = _; rw [HV2.out, if_pos (fun j hj => HA.out j (by omega))]
          clear HV2
          go_wp2_with fail
          refine HK3.out _ _ ?_
          clear HK3
          refine wp_seq_k (fun K4 hK4 => ?_)
          have HK4 := hideH hK4
          clear hK4
          go_wp2_with fail
          go_loopw [7] (fun x7 v => ∃ k : Nat, k ≤ n ∧ x7 = .int .i64 k ∧ Hid (Below w.heap.size w v) ∧ Hid (v.heap[w.heap.size]? = some (.cells #[.slice D.sa D.ns D.sc, .slice D.za D.nz D.zc, .slice D.la D.nl D.lc] 26)) ∧ Hid (∀ j, j < k → zoB D (us j).zn = true)) (fun x7 _ => n - (intOf x7).toNat)
          case atStart => exact ⟨0, Nat.zero_le _, rfl, H1, C1, fun j hj => by omega⟩
          case round =>
            obtain ⟨k, hk, rfl, HW, HC2, HA2⟩ := hrel
            by_cases hlt : k < n
            · rcases HU.out.on HW.out with h0 | ⟨b, off, hsa, hcs⟩
              · omega
              obtain ⟨c0, c1, c2, c3⟩ := hcs k hlt
              clear hcs c1 c2 c3
              obtain ⟨z0, z1, z2⟩ := cells3 HC2.out
              have hk0 : decide ((k : Int) < 0) = false := by simp
              have hkd : decide (n ≤ k) = false := by simp; omega
              have hki : (k : Int) < (n : Int) := by omega
              have hX : ∃ r : Int, ((∃ j : Nat, r = j) ∧ Hid (zoB D (us k).zn = true) ∨ r = -1 ∧ Hid (V = 4)) ∧ ∀ v, Below w.heap.size w v → Calls Tryz.prog 67 #[D.v, .string (us k).zn] v fun e w' => e = .returned (.int .i64 r) ∧ Below v.heap.size v w' := by
                refine ⟨_, ?_, fun v hv => HZA.out (us k).zn v hv⟩
                cases hq : zoB D (us k).zn
                · refine .inr ⟨(fst_zoB D (us k).zn).2 hq, ?_⟩
                  show V = 4
                  rw [HV3.out, if_neg (fun h => by have := h k hlt; rw [hq] at this; cases this)]
                · exact .inl ⟨(fst_zoB D (us k).zn).1 hq, rfl⟩
              obtain ⟨r, hr, hZ⟩ := hX
              have HZ := hideH hZ
              clear hZ
              rcases hr with ⟨⟨j, rfl⟩, HQ⟩ | ⟨rfl, HX⟩
              · have hj0 : (0 : Int) ≤ (j : Int) := by omega
                have HA3 : Hid (∀ i, i < k + 1 → zoB D (us i).zn = true) := fun i hi => by
                  rcases Nat.lt_or_ge i k with h | h
                  · exact HA2.out i h
                  · obtain rfl : i = k := by omega
                    exact HQ.out
                go_wp2_with fail
                go_region_held3 (fun v => v.cell? ⟨w.heap.size, 0, none⟩ = some (.slice D.sa D.ns D.sc) ∧ v.cell? ⟨w.heap.size, 1, none⟩ = some (.slice D.za D.nz D.zc) ∧ v.cell? ⟨w.heap.size, 2, none⟩ = some (.slice D.la D.nl D.lc) ∧ v.cell? ⟨b, off + k * 4, none⟩ = some (.string (us k).zn))
                  (first | (exact ⟨z0, z1, z2, c0⟩) | (exact ⟨cell_on (w := wr.drew) z0 hw2, cell_on (w := wr.drew) z1 hw2, cell_on (w := wr.drew) z2 hw2, cell_on (w := wr.drew) c0 hw2⟩))
                  (first | (go_at_call 67; refine (HZ.out _ (by exact HW.out.drew)).mono ?_; rintro e w2 ⟨rfl, hw2⟩))
                all_goals
                  have H2 := hideH (bthen (w := w) HW.out.drew hw2)
                  have C2 := hideH (heap_on (w := wr.drew) HC2.out hw2)
                  clear hw2 z0 z1 z2 c0
                  go_wp2_with fail
                  try simp only [← hsa]
                  go_roundw
                  case rel => exact ⟨k + 1, by omega, by go_num, H2, C2, HA3⟩
                  case measure => simp [intOf]; omega
              · go_wp2_with fail
                go_region_held3 (fun v => v.cell? ⟨w.heap.size, 0, none⟩ = some (.slice D.sa D.ns D.sc) ∧ v.cell? ⟨w.heap.size, 1, none⟩ = some (.slice D.za D.nz D.zc) ∧ v.cell? ⟨w.heap.size, 2, none⟩ = some (.slice D.la D.nl D.lc) ∧ v.cell? ⟨b, off + k * 4, none⟩ = some (.string (us k).zn))
                  (first | (exact ⟨z0, z1, z2, c0⟩) | (exact ⟨cell_on (w := wr.drew) z0 hw2, cell_on (w := wr.drew) z1 hw2, cell_on (w := wr.drew) z2 hw2, cell_on (w := wr.drew) c0 hw2⟩))
                  (first | (go_at_call 67; refine (HZ.out _ (by exact HW.out.drew)).mono ?_; rintro e w2 ⟨rfl, hw2⟩))
                all_goals
                  go_wp2_with fail
                  go_ret
                  exact ⟨ret_int HX.out.symm, bthen (w := w) HW.out.drew hw2⟩
            · have HV4 : Hid (V = if ∀ j, j < n → ubB (us j) = true then (if novl us n then 0 else 6) else 3) := by show V = _; rw [HV3.out, if_pos (fun j hj => HA2.out j (by omega))]
              clear HV3 HC2
              go_wp2_with fail
              refine HK4.out _ _ ?_
              clear HK4
              refine wp_seq_k (fun K5 hK5 => ?_)
              have HK5 := hideH hK5
              clear hK5
              obtain ⟨wq, hwq⟩ : ∃ wq, wq = wr := ⟨_, rfl⟩
              subst hwq
              go_wp2_with fail
              go_loopw [8] (fun x8 v => ∃ k : Nat, k ≤ n ∧ x8 = .int .i64 k ∧ Hid (Below w.heap.size w v) ∧ Hid (∀ j, j < k → ubB (us j) = true)) (fun x8 _ => n - (intOf x8).toNat)
              case atStart => exact ⟨0, Nat.zero_le _, rfl, HW, fun j hj => by omega⟩
              case round =>
                obtain ⟨k, hk, rfl, HW2, HA3⟩ := hrel
                by_cases hlt : k < n
                · rcases HU.out.on HW2.out with h0 | ⟨b, off, hsa, hcs⟩
                  · omega
                  obtain ⟨c0, c1, c2, c3⟩ := hcs k hlt
                  clear hcs c0 c3
                  have hk0 : decide ((k : Int) < 0) = false := by simp
                  have hkd : decide (n ≤ k) = false := by simp; omega
                  have hki : (k : Int) < (n : Int) := by omega
                  have hfit := (HFU.out k hlt).to
                  by_cases q1 : 1 ≤ (us k).to ∧ (us k).to ≤ 1893456000
                  · have hin1 := in_mk q1
                    have hw1 : IntKind.i64.wrap ((us k).to - 1) = (us k).to - 1 := wrap_nuR (by omega) (by omega)
                    by_cases q2 : 0 ≤ (us k).fr ∧ (us k).fr ≤ (us k).to - 1
                    · have hin2 := in_mk q2
                      have HA4 : Hid (∀ i, i < k + 1 → ubB (us i) = true) := fun i hi => by
                        rcases Nat.lt_or_ge i k with h | h
                        · exact HA3.out i h
                        · obtain rfl : i = k := by omega
                          exact ub_yes q1 q2
                      clear q1 q2
                      go_wp2_with fail
                      go_quiet (exact Calls.quiet_of_same (within_c _ _ _ _))
                      go_wp2_with fail
                      try simp only [← hsa]
                      go_roundw
                      case rel => exact ⟨k + 1, by omega, by go_num, below_drewN HW2.out _, HA4⟩
                      case measure => simp [intOf]; omega
                    · have hin2 := in_not q2
                      have HX : Hid (V = 3) := by show V = 3; rw [HV4.out, if_neg (fun h => by have := h k hlt; rw [ub_no2 q2] at this; cases this)]
                      clear q1 q2
                      go_wp2_with fail
                      go_quiet (exact Calls.quiet_of_same (within_c _ _ _ _))
                      go_wp2_with fail
                      go_ret
                      exact ⟨ret_int HX.out.symm, below_drewN HW2.out _⟩
                  · have hin1 := in_not q1
                    have HX : Hid (V = 3) := by show V = 3; rw [HV4.out, if_neg (fun h => by have := h k hlt; rw [ub_no1 q1] at this; cases this)]
                    clear q1
                    go_wp2_with fail
                    go_quiet (exact Calls.quiet_of_same (within_c _ _ _ _))
                    go_wp2_with fail
                    go_ret
                    exact ⟨ret_int HX.out.symm, below_drewN HW2.out _⟩
                · have HV5 : Hid (V = if novl us n then 0 else 6) := by show V = _; rw [HV4.out, if_pos (fun j hj => HA3.out j (by omega))]
                  clear HV4
                  go_wp2_with fail
                  refine HK5.out _ _ ?_
                  clear HK5
                  refine wp_seq_k (fun K6 hK6 => ?_)
                  have HK6 := hideH hK6
                  clear hK6
                  obtain ⟨wp, hwp⟩ : ∃ wp, wp = wr := ⟨_, rfl⟩
                  subst hwp
                  go_wp2_with fail
                  go_loopw [9] (fun x9 v => ∃ k : Nat, k ≤ n ∧ x9 = .int .i64 k ∧ Hid (Below w.heap.size w v) ∧ Hid (∀ i, i < k → ∀ m, m < i → ovB (us i) (us m) = false)) (fun x9 _ => n - (intOf x9).toNat)
                  case atStart => exact ⟨0, Nat.zero_le _, rfl, HW2, fun j hj => by omega⟩
                  case round =>
                    obtain ⟨k, hk, rfl, HW3, HA4⟩ := hrel
                    by_cases hlt : k < n
                    · obtain ⟨wo, hwo⟩ : ∃ wo, wo = wr := ⟨_, rfl⟩
                      subst hwo
                      go_wp2_with fail
                      go_loopw [10] (fun x10 v => ∃ i : Nat, i ≤ k ∧ x10 = .int .i64 i ∧ Hid (Below w.heap.size w v) ∧ Hid (∀ m, m < i → ovB (us k) (us m) = false)) (fun x10 _ => k - (intOf x10).toNat)
                      case atStart => exact ⟨0, Nat.zero_le _, rfl, HW3, fun j hj => by omega⟩
                      case round =>
                        obtain ⟨i, hi, rfl, HW4, HB⟩ := hrel
                        by_cases hik : i < k
                        · rcases HU.out.on HW4.out with h0 | ⟨b, off, hsa, hcs⟩
                          · omega
                          obtain ⟨c0, c1, c2, c3⟩ := hcs k hlt
                          obtain ⟨d0, d1, d2, d3⟩ := hcs i (by omega)
                          clear hcs c3 d3
                          have hk0 : decide ((k : Int) < 0) = false := by simp
                          have hkd : decide (n ≤ k) = false := by simp; omega
                          have hki : (k : Int) < (n : Int) := by omega
                          have hi0 : decide ((i : Int) < 0) = false := by simp
                          have hid : decide (n ≤ i) = false := by simp; omega
                          have hii : (i : Int) < (n : Int) := by omega
                          have hikI : (i : Int) < (k : Int) := by omega
                          have HX0 : Hid (ovB (us k) (us i) = true → V = 6) := fun h => by
                            rw [HV5.out, if_neg (fun h2 => by have := h2 k hlt i hik; rw [h] at this; cases this)]
                          have HB0 : Hid (ovB (us k) (us i) = false → ∀ m, m < i + 1 → ovB (us k) (us m) = false) := fun h m hm => by
                            rcases Nat.lt_or_ge m i with h3 | h3
                            · exact HB.out m h3
                            · obtain rfl : m = i := by omega
                              exact h
                          cases hq : ((us i).zn.toList == (us k).zn.toList)
                          · have HB2 := hideH (HB0.out (ov_eq (beq_flip hq)))
                            clear HX0 HB0
                            go_wp2_with fail
                            go_quiet (fail)
                            go_wp2_with fail
                            try simp only [← hsa]
                            go_roundw
                            case rel => exact ⟨i + 1, by omega, by go_num, below_drewN HW4.out _, HB2⟩
                            case measure => simp [intOf]; omega
                          · by_cases h1 : (us i).fr < (us k).to
                            · by_cases h2 : (us k).fr < (us i).to
                              · have HX := hideH (HX0.out (ov_yes (beq_flip hq) ⟨h2, h1⟩))
                                clear HX0 HB0
                                go_wp2_with fail
                                go_quiet (fail)
                                go_wp2_with fail
                                go_ret
                                exact ⟨ret_int HX.out.symm, below_drewN HW4.out _⟩
                              · have HB2 := hideH (HB0.out (ov_no (fun h => h2 h.1)))
                                clear HX0 HB0
                                go_wp2_with fail
                                go_quiet (fail)
                                go_wp2_with fail
                                try simp only [← hsa]
                                go_roundw
                                case rel => exact ⟨i + 1, by omega, by go_num, below_drewN HW4.out _, HB2⟩
                                case measure => simp [intOf]; omega
                            · have HB2 := hideH (HB0.out (ov_no (fun h => h1 h.2)))
                              clear HX0 HB0
                              go_wp2_with fail
                              have h1f : ((us i).fr < (us k).to) = False := eq_false (by omega)
                              go_quiet (fail)
                              go_wp2_with fail
                              try simp only [← hsa]
                              go_roundw
                              case rel => exact ⟨i + 1, by omega, by go_num, below_drewN HW4.out _, HB2⟩
                              case measure => simp [intOf]; omega
                        · have HA5 : Hid (∀ p, p < k + 1 → ∀ m, m < p → ovB (us p) (us m) = false) := fun p hp m hm => by
                            rcases Nat.lt_or_ge p k with h | h
                            · exact HA4.out p h m hm
                            · obtain rfl : p = k := by omega
                              exact HB.out m (by omega)
                          go_wp2_with fail
                          go_roundw
                          case rel => exact ⟨k + 1, by omega, by go_num, HW4, HA5⟩
                          case measure => simp [intOf]; omega
                    · have HX : Hid (V = 0) := by show V = 0; rw [HV5.out, if_pos (fun i hi m hm => HA4.out i (by omega) m hm)]
                      go_wp2_with fail
                      refine HK6.out _ _ ?_
                      clear HK6
                      go_wp2_with fail
                      go_ret
                      exact ⟨ret_int HX.out.symm, HW3.out⟩
    · have HX : Hid (V = 2) := by show V = 2; rw [HV.out]; unfold uchk; rw [if_pos Q0.out, if_neg h10]
      have h11 : (10 : Int) < (n : Int) := by omega
      go_wp2_with fail
      go_ret
      exact ⟨ret_int HX.out.symm, H1.out⟩
  · have HX : Hid (V = chkE D) := by show V = _; rw [HV.out]; unfold uchk; rw [if_neg q2]
    have hne : (chkE D != 0) = true := by rw [bne_iff_ne]; exact q2
    clear q1 q2
    go_wp2_with fail
    go_ret
    exact ⟨ret_int HX.out.symm, H1.out⟩
end Go.Proofs.YtmpiijipebngcaaGreatDoor

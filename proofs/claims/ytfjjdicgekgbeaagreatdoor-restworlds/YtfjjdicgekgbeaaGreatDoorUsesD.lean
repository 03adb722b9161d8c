/- Contracts of package uses: isThere, overlap, metaOf. -/
import Derived.Test.YtfjjdicgekgbeaaGreatDoorUsesAAll
import Derived.Test.YtfjjdicgekgbeaaGreatDoorDataKAll
namespace Go.Proofs.YtfjjdicgekgbeaaGreatDoor
open Go Go.RowKit
set_option linter.unusedVariables false

theorem isThere_c (x : Us) (D : Dt) (p : Nat) (w : World) (hn : D.nz ≤ 5) (hD : DAt w D) (hp : w.heap[p]? = some (.cells #[.slice D.sa D.ns D.sc, .slice D.za D.nz D.zc, .slice D.la D.nl D.lc] 26)) : Calls Tryz.prog 89 #[x.v, .pointer (some ⟨p, 0, none⟩)] w fun e w' => e = .returned (.bool (zoB D x.zn)) ∧ Below w.heap.size w w' := by
  have hb := hideH ((Below.refl _ w).alloc (Nat.le_refl _) x.cs)
  have HZ := hideH (isZone_c D x.zn _ hn (hD.on hb.out))
  obtain ⟨c0, c1, c2⟩ := cells3 (heap_on hp hb.out)
  clear hp hD c0 c2
  go_enter Tryz.func89, Tryz.ntmps89
  go_wp2_with (go_at_call 90; refine HZ.out.mono ?_; rintro e w2 ⟨rfl, hw2⟩)
  go_ret
  exact ⟨rfl, bthen hb.out hw2⟩
set_option maxHeartbeats 4000000 in
theorem uallThere_c (a : Option Addr) (n c : Nat) (us : Nat → Us) (D : Dt) (p : Nat) (w : World) (hn : n ≤ maxLen) (hP : UAt w a n us) (hf : ∀ j, j < n → (us j).fits) (hz : D.nz ≤ 5) (hD : DAt w D) (hp : w.heap[p]? = some (.cells #[.slice D.sa D.ns D.sc, .slice D.za D.nz D.zc, .slice D.la D.nl D.lc] 26)) : Calls Tryz.prog 91 #[.slice a n c, .func (.func 89) #[] #[.pointer (some ⟨p, 0, none⟩)]] w fun e w' => e = .returned (.bool (decide (∀ j, j < n → zoB D (us j).zn = true))) ∧ Below w.heap.size w w' := by
  have HP := hideH hP
  have HF := hideH hf
  have HD := hideH hD
  have HQ := hideH hp
  clear hD hp
  unfold maxLen at hn
  clear hP hf
  generalize hV : decide (∀ j, j < n → zoB D (us j).zn = true) = V
  have HV := hideH hV
  clear hV
  go_enter Tryz.func91, Tryz.ntmps91
  go_wp2_with fail
  go_loopw [9] (fun x9 wr => ∃ j : Nat, j ≤ n ∧ x9 = .int .i64 j ∧ Hid (∀ j', j' < j → zoB D (us j').zn = true) ∧ Hid (Below w.heap.size w wr)) (fun x9 _ => n - (intOf x9).toNat)
  case atStart => exact ⟨0, Nat.zero_le _, rfl, fun i hi => by omega, Below.refl _ _⟩
  case round =>
    obtain ⟨j, hj, rfl, HA, HW⟩ := hrel
    by_cases hlt : j < n
    · rcases HP.out.on HW.out with h0 | ⟨b, off, hsa, hcs⟩
      · omega
      obtain ⟨c0, c1, c2, c3⟩ := hcs j hlt
      clear hcs
      have hb := hideH ((Below.refl _ wr).alloc (Nat.le_refl _) (us j).cs)
      have HC : Hid (∀ v, Below wr.heap.size wr v → Calls Tryz.prog 89 #[(us j).v, .pointer (some ⟨p, 0, none⟩)] v fun e w' => e = .returned (.bool (zoB D (us j).zn)) ∧ Below v.heap.size v w') := fun v hv => isThere_c (us j) D p v hz (HD.out.on (bthen HW.out hv)) (heap_on HQ.out (bthen HW.out hv))
      cases hq : zoB D (us j).zn
      · rw [hq] at HC
        have HX : Hid (V = false) := by show V = false; rw [← HV.out]; exact decide_eq_false (fun h => by have := h j hlt; rw [hq] at this; cases this)
        clear hq
        go_wp2_with (go_at_call 89; refine (HC.out _ hb.out).mono ?_; rintro e w1 ⟨rfl, hw1⟩)
        go_ret
        exact ⟨ret_bool HX.out.symm, bthen HW.out (bthen hb.out hw1)⟩
      · rw [hq] at HC
        have HA2 : Hid (∀ j', j' < j + 1 → zoB D (us j').zn = true) := fun i hi => by
          rcases Nat.lt_or_ge i j with h | h
          · exact HA.out i h
          · obtain rfl : i = j := by omega
            exact hq
        clear hq
        go_wp2_with (go_at_call 89; refine (HC.out _ hb.out).mono ?_; rintro e w1 ⟨rfl, hw1⟩)
        have H2 := hideH (bthen HW.out (bthen hb.out hw1))
        clear hw1
        try simp only [← hsa]
        go_roundw
        case rel => exact ⟨j + 1, by omega, by go_num, HA2, H2⟩
        case measure => simp [intOf]; omega
    · have HX : Hid (V = true) := by show V = true; rw [← HV.out]; exact decide_eq_true (fun i hi => HA.out i (by omega))
      go_wp2_with fail
      go_ret
      exact ⟨ret_bool HX.out.symm, HW.out⟩
/-- have two uses of one zone a time in common? -/
def ovB (x y : Us) : Bool := (x.zn.toList == y.zn.toList) && decide (x.fr < y.to ∧ y.fr < x.to)
abbrev novl (us : Nat → Us) (n : Nat) : Prop := ∀ i, i < n → ∀ k, k < i → ovB (us i) (us k) = false
theorem ov_eq {x y : Us} (h : (x.zn.toList == y.zn.toList) = false) : ovB x y = false := by unfold ovB; rw [h]; rfl
theorem ov_no {x y : Us} (h : ¬ (x.fr < y.to ∧ y.fr < x.to)) : ovB x y = false := by unfold ovB; rw [decide_eq_false h]; simp
theorem ov_yes {x y : Us} (h : (x.zn.toList == y.zn.toList) = true) (h2 : x.fr < y.to ∧ y.fr < x.to) : ovB x y = true := by unfold ovB; rw [h, decide_eq_true h2]; rfl
set_option maxHeartbeats 8000000 in
theorem overlap_c (a : Option Addr) (n c : Nat) (us : Nat → Us) (w : World) (hn : n ≤ 10) (hc : n ≤ c) (hP : UAt w a n us) (hf : ∀ j, j < n → (us j).fits) : Calls Tryz.prog 93 #[.slice a n c] w fun e w' => e = .returned (.bool (!decide (novl us n))) ∧ Below w.heap.size w w' := by
  have HP := hideH hP
  have HF := hideH hf
  clear hP hf
  generalize hV : (!decide (novl us n)) = V
  have HV := hideH hV
  clear hV
  go_enter Tryz.func93, Tryz.ntmps93
  go_wp2_with fail
  go_loopw [9] (fun x9 wr => ∃ j : Nat, j ≤ n ∧ x9 = .int .i64 j ∧ Hid (∀ i, i < j → ∀ k, k < i → ovB (us i) (us k) = false) ∧ Hid (Below w.heap.size w wr)) (fun x9 _ => n - (intOf x9).toNat)
  case atStart => exact ⟨0, Nat.zero_le _, rfl, fun i hi => by omega, Below.refl _ _⟩
  case round =>
    obtain ⟨j, hj, rfl, HA, HW⟩ := hrel
    by_cases hlt : j < n
    · rcases HP.out.on HW.out with h0 | ⟨b, off, hsa, hcs⟩
      · omega
      obtain ⟨c0, c1, c2, c3⟩ := hcs j hlt
      have HCS := hideH hcs
      clear hcs
      have hjn : (j : Int) ≤ (c : Int) := by omega
      have hb := hideH ((Below.refl _ wr).alloc (Nat.le_refl _) (us j).cs)
      have e0 : Hid ((wr.alloc (us j).cs).cell? ⟨wr.heap.size, 0, none⟩ = some (.string (us j).zn)) := by show _ = _; simp
      have e1 : Hid ((wr.alloc (us j).cs).cell? ⟨wr.heap.size, 1, none⟩ = some (.int .i64 (us j).fr)) := by show _ = _; simp
      have e2 : Hid ((wr.alloc (us j).cs).cell? ⟨wr.heap.size, 2, none⟩ = some (.int .i64 (us j).to)) := by show _ = _; simp
      go_wp2_with fail
      clear c0 c1 c2 c3
      obtain ⟨wo, hwo⟩ : ∃ wo, wo = wr := ⟨_, rfl⟩
      subst hwo
      go_loopw [18] (fun x18 v => ∃ k : Nat, k ≤ j ∧ x18 = .int .i64 k ∧ Hid (∀ i, i < k → ovB (us j) (us i) = false) ∧ Hid (Below (wo.alloc (us j).cs).heap.size (wo.alloc (us j).cs) v)) (fun x18 _ => j - (intOf x18).toNat)
      case atStart => exact ⟨0, Nat.zero_le _, rfl, fun i hi => by omega, Below.refl _ _⟩
      case round =>
        obtain ⟨k, hk, rfl, HB, HV2⟩ := hrel
        have H2 := hideH (bthen HW.out (bthen hb.out HV2.out))
        by_cases hkj : k < j
        · have d0 := cell_on (HCS.out k (by omega)).1 (bthen hb.out HV2.out)
          have d1 := cell_on (HCS.out k (by omega)).2.1 (bthen hb.out HV2.out)
          have d2 := cell_on (HCS.out k (by omega)).2.2.1 (bthen hb.out HV2.out)
          have d3 := cell_on (HCS.out k (by omega)).2.2.2 (bthen hb.out HV2.out)
          have hbk := hideH ((Below.refl _ wr).alloc (Nat.le_refl _) (us k).cs)
          have f0 := cell_on (cell_on e0.out HV2.out) hbk.out
          have f1 := cell_on (cell_on e1.out HV2.out) hbk.out
          have f2 := cell_on (cell_on e2.out HV2.out) hbk.out
          have hlen : (k : Int) < (j : Int) := by omega
          have HV3 := hideH (HV2.out.trans (hbk.out.mono HV2.out.size))
          have HX0 : Hid (ovB (us j) (us k) = true → V = true) := fun h => by
            rw [← HV.out, Bool.not_eq_true']
            exact decide_eq_false (fun h2 => by have := h2 j hlt k hkj; rw [h] at this; cases this)
          have HB0 : Hid (ovB (us j) (us k) = false → ∀ i, i < k + 1 → ovB (us j) (us i) = false) := fun h i hi => by
            rcases Nat.lt_or_ge i k with h3 | h3
            · exact HB.out i h3
            · obtain rfl : i = k := by omega
              exact h
          cases hq : ((us j).zn.toList == (us k).zn.toList)
          · have HB2 := hideH (HB0.out (ov_eq hq))
            clear HX0 HB0
            go_wp2_with fail
            go_roundw
            case rel => exact ⟨k + 1, by omega, by go_num, HB2, HV3⟩
            case measure => simp [intOf]; omega
          · by_cases h1 : (us j).fr < (us k).to
            · by_cases h2 : (us k).fr < (us j).to
              · have HX := hideH (HX0.out (ov_yes hq ⟨h1, h2⟩))
                clear HX0 HB0
                go_wp2_with fail
                go_ret
                exact ⟨ret_bool HX.out.symm, bthen H2.out hbk.out⟩
              · have HB2 := hideH (HB0.out (ov_no (fun h => h2 h.2)))
                clear HX0 HB0
                go_wp2_with fail
                go_roundw
                case rel => exact ⟨k + 1, by omega, by go_num, HB2, HV3⟩
                case measure => simp [intOf]; omega
            · have HB2 := hideH (HB0.out (ov_no (fun h => h1 h.1)))
              clear HX0 HB0
              go_wp2_with fail
              go_roundw
              case rel => exact ⟨k + 1, by omega, by go_num, HB2, HV3⟩
              case measure => simp [intOf]; omega
        · obtain rfl : k = j := by omega
          have HA2 : Hid (∀ i, i < k + 1 → ∀ m, m < i → ovB (us i) (us m) = false) := fun i hi m hm => by
            rcases Nat.lt_or_ge i k with h | h
            · exact HA.out i h m hm
            · obtain rfl : i = k := by omega
              exact HB.out m hm
          go_wp2_with fail
          try simp only [← hsa]
          go_roundw
          case rel => exact ⟨k + 1, by omega, by go_num, HA2, H2⟩
          case measure => simp [intOf]; omega
    · have HX : Hid (V = false) := by
        show V = false
        rw [← HV.out, Bool.not_eq_false']
        exact decide_eq_true (fun i hi m hm => HA.out i (by omega) m hm)
      go_wp2_with fail
      go_ret
      exact ⟨ret_bool HX.out.symm, HW.out⟩
/-- what a zone is called by at a time -/
def hasB (x : Us) (z : ByteArray) (t : Int) : Bool := (x.zn.toList == z.toList) && decide (x.fr ≤ t ∧ t < x.to)
def metR (us : Nat → Us) (n : Nat) (z : ByteArray) (t : Int) : ByteArray := match (List.range n).find? fun j => hasB (us j) z t with | some j => (us j).mt | none => ⟨#[]⟩
theorem has_eq {x : Us} {z : ByteArray} {t : Int} (h : (x.zn.toList == z.toList) = false) : hasB x z t = false := by unfold hasB; rw [h]; rfl
theorem has_no {x : Us} {z : ByteArray} {t : Int} (h : ¬ (x.fr ≤ t ∧ t < x.to)) : hasB x z t = false := by unfold hasB; rw [decide_eq_false h]; simp
theorem has_yes {x : Us} {z : ByteArray} {t : Int} (h : (x.zn.toList == z.toList) = true) (h2 : x.fr ≤ t ∧ t < x.to) : hasB x z t = true := by unfold hasB; rw [h, decide_eq_true h2]; rfl
theorem ufind {p : Nat → Bool} {j : Nat} : ∀ {n : Nat}, j < n → p j = true → (∀ i, i < j → p i = false) → (List.range n).find? p = some j
  | 0, h, _, _ => absurd h (Nat.not_lt_zero _)
  | n + 1, h, hp, ha => by
    rw [List.range_succ, List.find?_append]
    rcases Nat.lt_or_ge j n with hl | hg
    · rw [ufind hl hp ha]; rfl
    · obtain rfl : j = n := by omega
      rw [List.find?_eq_none.2 (fun x hx => by rw [ha x (List.mem_range.1 hx)]; decide)]
      simp [hp]
set_option maxHeartbeats 4000000 in
theorem metaOf_c (a : Option Addr) (n c : Nat) (us : Nat → Us) (z : ByteArray) (t : Int) (w : World) (hn : n ≤ 10) (hP : UAt w a n us) : Calls Tryz.prog 142 #[.slice a n c, .string z, .int .i64 t] w fun e w' => e = .returned (.string (metR us n z t)) ∧ Below w.heap.size w w' := by
  have HP := hideH hP
  clear hP
  generalize hV : metR us n z t = V
  have HV := hideH hV
  clear hV
  go_enter Tryz.func142, Tryz.ntmps142
  go_wp2_with fail
  go_loopw [11] (fun x9 wr => ∃ j : Nat, j ≤ n ∧ x9 = .int .i64 j ∧ Hid (∀ i, i < j → hasB (us i) z t = false) ∧ Hid (Below w.heap.size w wr)) (fun x9 _ => n - (intOf x9).toNat)
  case atStart => exact ⟨0, Nat.zero_le _, rfl, fun i hi => by omega, Below.refl _ _⟩
  case round =>
    obtain ⟨j, hj, rfl, HA, HW⟩ := hrel
    by_cases hlt : j < n
    · rcases HP.out.on HW.out with h0 | ⟨b, off, hsa, hcs⟩
      · omega
      obtain ⟨c0, c1, c2, c3⟩ := hcs j hlt
      clear hcs
      have hb := hideH ((Below.refl _ wr).alloc (Nat.le_refl _) (us j).cs)
      have H2 := hideH (bthen HW.out hb.out)
      have HX0 : Hid (hasB (us j) z t = true → V = (us j).mt) := fun h => by
        rw [← HV.out]; unfold metR; rw [ufind hlt h HA.out]
      have HA0 : Hid (hasB (us j) z t = false → ∀ i, i < j + 1 → hasB (us i) z t = false) := fun h i hi => by
        rcases Nat.lt_or_ge i j with h3 | h3
        · exact HA.out i h3
        · obtain rfl : i = j := by omega
          exact h
      cases hq : ((us j).zn.toList == z.toList)
      · have HA2 := hideH (HA0.out (has_eq hq))
        clear HX0 HA0
        go_wp2_with fail
        try simp only [← hsa]
        go_roundw
        case rel => exact ⟨j + 1, by omega, by go_num, HA2, H2⟩
        case measure => simp [intOf]; omega
      · by_cases h1 : (us j).fr ≤ t
        · by_cases h2 : t < (us j).to
          · have HX := hideH (HX0.out (has_yes hq ⟨h1, h2⟩))
            clear HX0 HA0
            go_wp2_with fail
            go_ret
            exact ⟨by rw [HX.out] <;> rfl, H2.out⟩
          · have HA2 := hideH (HA0.out (has_no (fun h => h2 h.2)))
            clear HX0 HA0
            go_wp2_with fail
            try simp only [← hsa]
            go_roundw
            case rel => exact ⟨j + 1, by omega, by go_num, HA2, H2⟩
            case measure => simp [intOf]; omega
        · have HA2 := hideH (HA0.out (has_no (fun h => h1 h.1)))
          clear HX0 HA0
          go_wp2_with fail
          try simp only [← hsa]
          go_roundw
          case rel => exact ⟨j + 1, by omega, by go_num, HA2, H2⟩
          case measure => simp [intOf]; omega
    · have HX : Hid (V = ⟨#[]⟩) := by
        show V = _
        rw [← HV.out]
        unfold metR
        rw [List.find?_eq_none.2 (fun x hx => by rw [HA.out x (by have := List.mem_range.1 hx; omega)]; decide)]
      go_wp2_with fail
      go_ret
      exact ⟨by rw [HX.out] <;> rfl, HW.out⟩
end Go.Proofs.YtfjjdicgekgbeaaGreatDoor

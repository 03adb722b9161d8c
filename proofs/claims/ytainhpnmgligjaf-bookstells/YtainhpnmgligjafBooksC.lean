/- Contracts of package books: all of rises, sameLocale, parentsAhead, Check. -/
import Derived.Test.YtainhpnmgligjafBooksB
import Derived.Test.YtainhpnmgligjafDataG
namespace Go.Proofs.Ytainhpnmgligjaf
open Go Go.RowKit
set_option linter.unusedVariables false

set_option maxHeartbeats 4000000 in
theorem allRis_c (a : Option Addr) (n c : Nat) (bs : Nat → Bk) (w : World) (hn : n ≤ maxLen) (hP : BAt w a n bs) (hf : ∀ j, j < n → (bs j).fits) : Calls Try.prog 17 #[.slice a n c, .func (.func 21) #[] #[]] w fun e w' => e = .returned (.bool (decide (∀ j, j < n → rsB (bs j) = true))) ∧ Below w.heap.size w w' := by
  have HP := hideH hP
  have HF := hideH hf
  unfold maxLen at hn
  clear hP hf
  generalize hV : decide (∀ j, j < n → rsB (bs j) = true) = V
  have HV := hideH hV
  clear hV
  go_enter Try.func17, Try.ntmps17
  go_wp2_with fail
  go_loopw [9] (fun x9 wr => ∃ j : Nat, j ≤ n ∧ x9 = .int .i64 j ∧ Hid (∀ i, i < j → rsB (bs i) = true) ∧ Hid (Below w.heap.size w wr)) (fun x9 _ => n - (intOf x9).toNat)
  case atStart => exact ⟨0, Nat.zero_le _, rfl, fun i hi => by omega, Below.refl _ _⟩
  case round =>
    obtain ⟨j, hj, rfl, HA, HW⟩ := hrel
    by_cases hlt : j < n
    · rcases (HP.out.on HW.out).rows with h0 | ⟨b, off, hsa, hcs⟩
      · omega
      obtain ⟨c0, c1, c2⟩ := hcs j hlt
      clear hcs
      have hb := hideH ((Below.refl _ wr).alloc (Nat.le_refl _) (bs j).cs)
      have HC : Hid (∀ v, Below wr.heap.size wr v → Calls Try.prog 21 #[(bs j).v] v fun e w' => e = .returned (.bool (rsB (bs j))) ∧ Below v.heap.size v w') := fun v hv => rises_c (bs j) v (HF.out j hlt) (((HP.out.on HW.out).prs j hlt).on hv)
      cases hq : rsB (bs j)
      · rw [hq] at HC
        have HX : Hid (V = false) := by show V = false; rw [← HV.out]; exact decide_eq_false (fun h => by have := h j hlt; rw [hq] at this; cases this)
        clear hq
        go_wp2_with (go_at_call 21; refine (HC.out _ hb.out).mono ?_; rintro e w1 ⟨rfl, hw1⟩)
        go_ret
        exact ⟨ret_bool HX.out.symm, bthen HW.out (bthen hb.out hw1)⟩
      · rw [hq] at HC
        have HA2 : Hid (∀ i, i < j + 1 → rsB (bs i) = true) := fun i hi => by
          rcases Nat.lt_or_ge i j with h | h
          · exact HA.out i h
          · obtain rfl : i = j := by omega
            exact hq
        clear hq
        go_wp2_with (go_at_call 21; refine (HC.out _ hb.out).mono ?_; rintro e w1 ⟨rfl, hw1⟩)
        have H2 := hideH (bthen HW.out (bthen hb.out hw1))
        clear hw1
        try simp only [← hsa]
        go_roundw
        case rel => exact ⟨j + 1, by omega, by go_num, HA2, H2⟩
        case measure => simp [intOf]; omega
    · have HX : Hid (V = true) := by show V = true; rw [← HV.out]; exact decide_eq_true (fun i hi => HA.out i (by omega))
      go_wp2_with fail
      go_ret
      exact ⟨ret_bool HX.out.symm, HW.out⟩
theorem beq_l {a b : ByteArray} {v : Bool} (h : (a.toList == b.toList) = v) : (a.data.toList = b.data.toList) ↔ v = true := by
  rw [ByteArray.toList_eq, ByteArray.toList_eq] at h
  rw [← h]
  simp
set_option maxHeartbeats 8000000 in
theorem sameLocale_c (a : Option Addr) (n c : Nat) (bs : Nat → Bk) (w : World) (hn : n ≤ maxLen) (hc : n ≤ c) (hP : BAt w a n bs) : Calls Try.prog 20 #[.slice a n c] w fun e w' => e = .returned (.bool (!decide (dist (fun j => (bs j).lc) n))) ∧ Below w.heap.size w w' := by
  have HP := hideH hP
  unfold maxLen at hn
  clear hP
  generalize hV : (!decide (dist (fun j => (bs j).lc) n)) = V
  have HV := hideH hV
  clear hV
  go_enter Try.func20, Try.ntmps20
  go_wp2_with fail
  go_loopw [9] (fun x9 wr => ∃ j : Nat, j ≤ n ∧ x9 = .int .i64 j ∧ Hid (∀ i, i < j → ∀ k, k < i → (bs i).lc.data.toList ≠ (bs k).lc.data.toList) ∧ Hid (Below w.heap.size w wr)) (fun x9 _ => n - (intOf x9).toNat)
  case atStart => exact ⟨0, Nat.zero_le _, rfl, fun i hi => by omega, Below.refl _ _⟩
  case round =>
    obtain ⟨j, hj, rfl, HA, HW⟩ := hrel
    by_cases hlt : j < n
    · rcases (HP.out.on HW.out).rows with h0 | ⟨b, off, hsa, hcs⟩
      · omega
      obtain ⟨c0, c1, c2⟩ := hcs j hlt
      have HCS := hideH hcs
      clear hcs
      have hjn : (j : Int) ≤ (c : Int) := by omega
      have hb := hideH ((Below.refl _ wr).alloc (Nat.le_refl _) (bs j).cs)
      have e0 : Hid ((wr.alloc (bs j).cs).cell? ⟨wr.heap.size, 0, none⟩ = some (.string (bs j).lc)) := by show _ = _; simp
      go_wp2_with fail
      clear c0 c1 c2
      obtain ⟨wo, hwo⟩ : ∃ wo, wo = wr := ⟨_, rfl⟩
      subst hwo
      go_loopw [18] (fun x18 v => ∃ k : Nat, k ≤ j ∧ x18 = .int .i64 k ∧ Hid (∀ i, i < k → (bs j).lc.data.toList ≠ (bs i).lc.data.toList) ∧ Hid (Below (wo.alloc (bs j).cs).heap.size (wo.alloc (bs j).cs) v)) (fun x18 _ => j - (intOf x18).toNat)
      case atStart => exact ⟨0, Nat.zero_le _, rfl, fun i hi => by omega, Below.refl _ _⟩
      case round =>
        obtain ⟨k, hk, rfl, HB, HV2⟩ := hrel
        have H2 := hideH (bthen HW.out (bthen hb.out HV2.out))
        by_cases hkj : k < j
        · have d0 := cell_on (HCS.out k (by omega)).1 (bthen hb.out HV2.out)
          have d1 := cell_on (HCS.out k (by omega)).2.1 (bthen hb.out HV2.out)
          have d2 := cell_on (HCS.out k (by omega)).2.2 (bthen hb.out HV2.out)
          have f0 := cell_on e0.out HV2.out
          have hbk := hideH ((Below.refl _ wr).alloc (Nat.le_refl _) (bs k).cs)
          have f1 := cell_on f0 hbk.out
          have hlen : (k : Int) < (j : Int) := by omega
          cases hq : ((bs j).lc.toList == (bs k).lc.toList)
          · have hne : (bs j).lc.data.toList ≠ (bs k).lc.data.toList := fun e => by have := (beq_l hq).1 e; cases this
            have HB2 : Hid (∀ i, i < k + 1 → (bs j).lc.data.toList ≠ (bs i).lc.data.toList) := fun i hi => by
              rcases Nat.lt_or_ge i k with h | h
              · exact HB.out i h
              · obtain rfl : i = k := by omega
                exact hne
            have HV3 := hideH (HV2.out.trans (hbk.out.mono HV2.out.size))
            clear hne
            go_wp2_with fail
            go_roundw
            case rel => exact ⟨k + 1, by omega, by go_num, HB2, HV3⟩
            case measure => simp [intOf]; omega
          · have heq : (bs j).lc.data.toList = (bs k).lc.data.toList := (beq_l hq).2 rfl
            have HX : Hid (V = true) := by
              show V = true
              rw [← HV.out, Bool.not_eq_true']
              exact decide_eq_false (fun h => h j hlt k hkj heq)
            clear heq
            go_wp2_with fail
            go_ret
            exact ⟨ret_bool HX.out.symm, bthen H2.out hbk.out⟩
        · obtain rfl : k = j := by omega
          have HA2 : Hid (∀ i, i < k + 1 → ∀ m, m < i → (bs i).lc.data.toList ≠ (bs m).lc.data.toList) := fun i hi m hm => by
            rcases Nat.lt_or_ge i k with h | h
            · exact HA.out i h m hm
            · obtain rfl : i = k := by omega
              exact HB.out m hm
          go_wp2_with fail
          try simp only [← hsa]
          go_roundw
          case rel => exact ⟨k + 1, by omega, by go_num, HA2, H2⟩
          case measure => simp [intOf]; omega
    · have HX : Hid (V = false) := by
        show V = false
        rw [← HV.out, Bool.not_eq_false']
        exact decide_eq_true (fun i hi m hm => HA.out i (by omega) m hm)
      go_wp2_with fail
      go_ret
      exact ⟨ret_bool HX.out.symm, HW.out⟩
def paOK (bs : Nat → Bk) (n : Nat) : Prop := ∀ j, j < n → -1 ≤ (bs j).pa ∧ (bs j).pa < j
abbrev paB (bs : Nat → Bk) (n : Nat) : Bool := (List.range n).all fun j => decide (-1 ≤ (bs j).pa ∧ (bs j).pa < j)
theorem paB_iff (bs : Nat → Bk) (n : Nat) : paB bs n = true ↔ paOK bs n := by
  unfold paB paOK
  rw [List.all_eq_true]
  constructor
  · intro h j hj
    simpa using h j (List.mem_range.2 hj)
  · intro h j hj
    simpa using h j (List.mem_range.1 hj)
set_option maxHeartbeats 8000000 in
theorem parentsAhead_c (a : Option Addr) (n c : Nat) (bs : Nat → Bk) (w : World) (hn : n ≤ maxLen) (hP : BAt w a n bs) : Calls Try.prog 22 #[.slice a n c] w fun e w' => e = .returned (.bool (paB bs n)) ∧ Below w.heap.size w w' := by
  have HP := hideH hP
  unfold maxLen at hn
  clear hP
  generalize hV : paB bs n = V
  have HV := hideH hV
  clear hV
  go_enter Try.func22, Try.ntmps22
  go_wp2_with fail
  go_loopw [7] (fun x7 wr => ∃ j : Nat, j ≤ n ∧ x7 = .int .i64 j ∧ Hid (∀ i, i < j → -1 ≤ (bs i).pa ∧ (bs i).pa < i) ∧ Hid (Below w.heap.size w wr)) (fun x7 _ => n - (intOf x7).toNat)
  case atStart => exact ⟨0, Nat.zero_le _, rfl, fun i hi => by omega, Below.refl _ _⟩
  case round =>
    obtain ⟨j, hj, rfl, HA, HW⟩ := hrel
    by_cases hlt : j < n
    · rcases (HP.out.on HW.out).rows with h0 | ⟨b, off, hsa, hcs⟩
      · omega
      obtain ⟨c0, c1, c2⟩ := hcs j hlt
      clear hcs
      have hb := hideH ((Below.refl _ wr).alloc (Nat.le_refl _) (bs j).cs)
      by_cases hok : -1 ≤ (bs j).pa ∧ (bs j).pa < j
      · have HA2 : Hid (∀ i, i < j + 1 → -1 ≤ (bs i).pa ∧ (bs i).pa < i) := fun i hi => by
          rcases Nat.lt_or_ge i j with h | h
          · exact HA.out i h
          · obtain rfl : i = j := by omega
            exact hok
        obtain ⟨o1, o2⟩ := hok
        have H2 := hideH (bthen HW.out hb.out)
        go_wp2_with fail
        try simp only [← hsa]
        go_roundw
        case rel => exact ⟨_, _, _, _, ⟨j + 1, by omega, by go_num, HA2⟩, rfl, rfl, rfl, rfl⟩
        case measure => simp [intOf]; omega
      · have HX : Hid (V = false) := by
          show V = false
          rw [← HV.out, Bool.eq_false_iff]
          intro h
          exact hok ((paB_iff bs n).1 h j hlt)
        have hd : (bs j).pa < -1 ∨ (-1 ≤ (bs j).pa ∧ (j : Int) ≤ (bs j).pa) := by omega
        clear hok
        rcases hd with hd | ⟨hd, hd2⟩
        all_goals
          go_wp2_with fail
          go_ret
          exact ⟨ret_bool HX.out.symm, bthen HW.out hb.out⟩
    · have HX : Hid (V = true) := by
        show V = true
        rw [← HV.out, paB_iff]
        exact fun i hi => HA.out i (by omega)
      go_wp2_with fail
      go_ret
      exact ⟨ret_bool HX.out.symm, HW.out⟩
/-- what books.Check answers -/
def bchk (n : Nat) (bs : Nat → Bk) : Int :=
  if n ≤ 4 ∧ ∀ j, j < n → fewB (bs j) = true then
    if ∀ j, j < n → namB (bs j) = true then
      if dist (fun j => (bs j).lc) n ∧ ∀ j, j < n → rsB (bs j) = true then
        if paB bs n = true then 0 else 3
      else 6
    else 5
  else 2
set_option maxHeartbeats 8000000 in
theorem BCheck_c (a : Option Addr) (n c : Nat) (bs : Nat → Bk) (w : World) (hn : n ≤ maxLen) (hc : n ≤ c) (hP : BAt w a n bs) (hf : ∀ j, j < n → (bs j).fits) : Calls Try.prog 8 #[.slice a n c] w fun e w' => e = .returned (.int .i64 (bchk n bs)) ∧ Below w.heap.size w w' := by
  have H1 : Hid (∀ v, Below w.heap.size w v → Calls Try.prog 17 #[.slice a n c, .func (.func 18) #[] #[]] v fun e w' => e = .returned (.bool (decide (∀ j, j < n → fewB (bs j) = true))) ∧ Below v.heap.size v w') := fun v hv => allFew_c a n c bs v hn (hP.on hv) hf
  have H2 : Hid (∀ v, Below w.heap.size w v → Calls Try.prog 17 #[.slice a n c, .func (.func 19) #[] #[]] v fun e w' => e = .returned (.bool (decide (∀ j, j < n → namB (bs j) = true))) ∧ Below v.heap.size v w') := fun v hv => allNam_c a n c bs v hn (hP.on hv) hf
  have H3 : Hid (∀ v, Below w.heap.size w v → Calls Try.prog 20 #[.slice a n c] v fun e w' => e = .returned (.bool (!decide (dist (fun j => (bs j).lc) n))) ∧ Below v.heap.size v w') := fun v hv => sameLocale_c a n c bs v hn hc (hP.on hv)
  have H4 : Hid (∀ v, Below w.heap.size w v → Calls Try.prog 17 #[.slice a n c, .func (.func 21) #[] #[]] v fun e w' => e = .returned (.bool (decide (∀ j, j < n → rsB (bs j) = true))) ∧ Below v.heap.size v w') := fun v hv => allRis_c a n c bs v hn (hP.on hv) hf
  have H5 : Hid (∀ v, Below w.heap.size w v → Calls Try.prog 22 #[.slice a n c] v fun e w' => e = .returned (.bool (paB bs n)) ∧ Below v.heap.size v w') := fun v hv => parentsAhead_c a n c bs v hn (hP.on hv)
  have H0 := hideH (Below.refl w.heap.size w)
  unfold maxLen at hn
  clear hP hf
  by_cases a1 : n ≤ 4
  · by_cases a2 : ∀ j, j < n → fewB (bs j) = true
    · rw [decide_eq_true a2] at H1
      by_cases a3 : ∀ j, j < n → namB (bs j) = true
      · rw [decide_eq_true a3] at H2
        by_cases a4 : dist (fun j => (bs j).lc) n
        · rw [decide_eq_true a4] at H3
          by_cases a5 : ∀ j, j < n → rsB (bs j) = true
          · rw [decide_eq_true a5] at H4
            cases a6 : paB bs n
            · rw [a6] at H5
              have HX : Hid (bchk n bs = 3) := by show _ = _; unfold bchk; rw [if_pos ⟨a1, a2⟩, if_pos a3, if_pos ⟨a4, a5⟩, a6]; rfl
              clear a2 a3 a4 a5 a6
              go_enter Try.func8, Try.ntmps8
              go_wp2_with fail
              refine (H1.out _ H0.out).mono ?_
              rintro e w1 ⟨rfl, h1⟩
              have G1 := hideH h1
              clear h1
              go_wp2_with fail
              refine (H2.out _ G1.out).mono ?_
              rintro e w2 ⟨rfl, h2⟩
              have G2 := hideH (bthen G1.out h2)
              clear h2
              go_wp2_with fail
              refine (H3.out _ G2.out).mono ?_
              rintro e w3 ⟨rfl, h3⟩
              have G3 := hideH (bthen G2.out h3)
              clear h3
              go_wp2_with fail
              refine (H4.out _ G3.out).mono ?_
              rintro e w4 ⟨rfl, h4⟩
              have G4 := hideH (bthen G3.out h4)
              clear h4
              go_wp2_with fail
              refine (H5.out _ G4.out).mono ?_
              rintro e w5 ⟨rfl, h5⟩
              have G5 := hideH (bthen G4.out h5)
              clear h5
              go_wp2_with fail
              go_ret
              exact ⟨ret_int HX.out.symm, G5.out⟩
            · rw [a6] at H5
              have HX : Hid (bchk n bs = 0) := by show _ = _; unfold bchk; rw [if_pos ⟨a1, a2⟩, if_pos a3, if_pos ⟨a4, a5⟩, a6]; rfl
              clear a2 a3 a4 a5 a6
              go_enter Try.func8, Try.ntmps8
              go_wp2_with fail
              refine (H1.out _ H0.out).mono ?_
              rintro e w1 ⟨rfl, h1⟩
              have G1 := hideH h1
              clear h1
              go_wp2_with fail
              refine (H2.out _ G1.out).mono ?_
              rintro e w2 ⟨rfl, h2⟩
              have G2 := hideH (bthen G1.out h2)
              clear h2
              go_wp2_with fail
              refine (H3.out _ G2.out).mono ?_
              rintro e w3 ⟨rfl, h3⟩
              have G3 := hideH (bthen G2.out h3)
              clear h3
              go_wp2_with fail
              refine (H4.out _ G3.out).mono ?_
              rintro e w4 ⟨rfl, h4⟩
              have G4 := hideH (bthen G3.out h4)
              clear h4
              go_wp2_with fail
              refine (H5.out _ G4.out).mono ?_
              rintro e w5 ⟨rfl, h5⟩
              have G5 := hideH (bthen G4.out h5)
              clear h5
              go_wp2_with fail
              go_ret
              exact ⟨ret_int HX.out.symm, G5.out⟩
          · rw [decide_eq_false a5] at H4
            have HX : Hid (bchk n bs = 6) := by show _ = _; unfold bchk; rw [if_pos ⟨a1, a2⟩, if_pos a3, if_neg (fun h => a5 h.2)]
            clear a2 a3 a4 a5
            go_enter Try.func8, Try.ntmps8
            go_wp2_with fail
            refine (H1.out _ H0.out).mono ?_
            rintro e w1 ⟨rfl, h1⟩
            have G1 := hideH h1
            clear h1
            go_wp2_with fail
            refine (H2.out _ G1.out).mono ?_
            rintro e w2 ⟨rfl, h2⟩
            have G2 := hideH (bthen G1.out h2)
            clear h2
            go_wp2_with fail
            refine (H3.out _ G2.out).mono ?_
            rintro e w3 ⟨rfl, h3⟩
            have G3 := hideH (bthen G2.out h3)
            clear h3
            go_wp2_with fail
            refine (H4.out _ G3.out).mono ?_
            rintro e w4 ⟨rfl, h4⟩
            have G4 := hideH (bthen G3.out h4)
            clear h4
            go_wp2_with fail
            go_ret
            exact ⟨ret_int HX.out.symm, G4.out⟩
        · rw [decide_eq_false a4] at H3
          have HX : Hid (bchk n bs = 6) := by show _ = _; unfold bchk; rw [if_pos ⟨a1, a2⟩, if_pos a3, if_neg (fun h => a4 h.1)]
          clear a2 a3 a4
          go_enter Try.func8, Try.ntmps8
          go_wp2_with fail
          refine (H1.out _ H0.out).mono ?_
          rintro e w1 ⟨rfl, h1⟩
          have G1 := hideH h1
          clear h1
          go_wp2_with fail
          refine (H2.out _ G1.out).mono ?_
          rintro e w2 ⟨rfl, h2⟩
          have G2 := hideH (bthen G1.out h2)
          clear h2
          go_wp2_with fail
          refine (H3.out _ G2.out).mono ?_
          rintro e w3 ⟨rfl, h3⟩
          have G3 := hideH (bthen G2.out h3)
          clear h3
          go_wp2_with fail
          go_ret
          exact ⟨ret_int HX.out.symm, G3.out⟩
      · rw [decide_eq_false a3] at H2
        have HX : Hid (bchk n bs = 5) := by show _ = _; unfold bchk; rw [if_pos ⟨a1, a2⟩, if_neg a3]
        clear a2 a3
        go_enter Try.func8, Try.ntmps8
        go_wp2_with fail
        refine (H1.out _ H0.out).mono ?_
        rintro e w1 ⟨rfl, h1⟩
        have G1 := hideH h1
        clear h1
        go_wp2_with fail
        refine (H2.out _ G1.out).mono ?_
        rintro e w2 ⟨rfl, h2⟩
        have G2 := hideH (bthen G1.out h2)
        clear h2
        go_wp2_with fail
        go_ret
        exact ⟨ret_int HX.out.symm, G2.out⟩
    · rw [decide_eq_false a2] at H1
      have HX : Hid (bchk n bs = 2) := by show _ = _; unfold bchk; rw [if_neg (fun h => a2 h.2)]
      clear a2
      go_enter Try.func8, Try.ntmps8
      go_wp2_with fail
      refine (H1.out _ H0.out).mono ?_
      rintro e w1 ⟨rfl, h1⟩
      have G1 := hideH h1
      clear h1
      go_wp2_with fail
      go_ret
      exact ⟨ret_int HX.out.symm, G1.out⟩
  · have HX : Hid (bchk n bs = 2) := by show _ = _; unfold bchk; rw [if_neg (fun h => a1 h.1)]
    have a2 : (4 : Int) < (n : Int) := by omega
    go_enter Try.func8, Try.ntmps8
    go_wp2_with fail
    go_ret
    exact ⟨ret_int HX.out.symm, H0.out⟩
end Go.Proofs.Ytainhpnmgligjaf

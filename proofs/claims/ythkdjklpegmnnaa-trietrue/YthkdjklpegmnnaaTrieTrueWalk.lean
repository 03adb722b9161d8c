/- The walk of the statement TrieTrue. -/
import Derived.Test.YthkdjklpegmnnaaTrieQ
import Derived.SizedLaws
import Derived.Deep.RegionHeld3
namespace Go.Proofs.Ythkdjklpegmnnaa.Tri
open Go Go.RowKit Go.Maps
set_option linter.unusedVariables false

theorem ext_take (s : ByteArray) {n : Nat} (h : n ≤ s.size) : (s.extract 0 n).data.toList = s.data.toList.take n := by simp
theorem beq_tl (a b : ByteArray) : (a.toList == b.toList) = decide (a.data.toList = b.data.toList) := by
  rw [tl, tl]
  by_cases h : a.data.toList = b.data.toList
  · rw [decide_eq_true h]; simp [h]
  · rw [decide_eq_false h]; simpa using h
theorem choose_natA (c : Int) (n : Nat) (hn : 0 < n) (hc : -9223372036854775808 ≤ c) (hc2 : c ≤ 9223372036854775807) :
    ∃ k : Nat, k < n ∧ ∀ w, Calls Try.prog 19 #[.int .i64 c, .int .i64 n] w fun e w' => e = .returned (.int .i64 k) ∧ w' = w := by
  have := cho_bd c n (by omega)
  refine ⟨(cho c n).toNat, by omega, fun w => ?_⟩
  rw [show (((cho c n).toNat : Nat) : Int) = cho c n by omega]
  exact choose_any c n w (by omega) hc hc2
set_option maxRecDepth 100000 in
set_option maxHeartbeats 8000000 in
theorem TrieTrue_w (a : Option Addr) (n c : Nat) (ss : Nat → ByteArray) (s : ByteArray) (i : Int) (w : World) (hn : n ≤ maxLen) (hP : TxA w a n ss) (hf : ∀ j, j < n → (ss j).size ≤ maxLen) (hsz : s.size ≤ reachBytes) (hi : -9223372036854775808 ≤ i ∧ i ≤ 9223372036854775807) :
    Calls Try.prog 5 #[.slice a n c, .string s, .int .i64 i] w fun e w' => e = .returned (.bool true) ∧ Below w.heap.size w w' := by
  have HBg := hideH (fun v => trieBegun_c v)
  have HP := hideH hP
  have hsm : s.size ≤ 140737488355328 := by have := reachBytes_lt; omega
  clear hsz
  by_cases h0 : bldE n ss = 0
  · have HB := hideH (Build_ok a n c ss w hn hP hf h0)
    have HFit := hideH (bld_fitT h0)
    have HFi := hideH (fun (u : ByteArray) (hu : u.size ≤ maxLen) ta tc v (h : TrL v ta (trI n ss)) => Find_c ta tc (trI n ss) u v hu HFit.out h)
    have HL := hideH (fun ta tc v (h : TrL v ta (trI n ss)) => Longest_c ta tc (trI n ss) s v (by unfold maxLen; omega) HFit.out h)
    have HC := hideH (fun ta tc v (h : TrL v ta (trI n ss)) => TCheck_c ta tc (trI n ss) v HFit.out h)
    unfold ckP at HC
    have hck := tchk_yes (bld_okT h0)
    rw [hck] at HL HC HFi
    simp only [fnd_fw h0] at HFi
    have hn40 := (bldE_zero h0).1
    have f := long_facts h0 s
    have hl1 := f.le
    have HLW := hideH (long_word h0 s)
    have HBst := hideH (bst_all h0 s)
    have HBd := hideH (bst_bd h0 s)
    have HSz : Hid (∀ j, j < n → (ss j).size ≤ 12) := fun j hj => (okW_sz ((bldE_zero h0).2 j hj)).2
    have HFit2 := HFit
    obtain ⟨n1, hn1⟩ : ∃ n1, n1 = (longR (trI n ss) s).2 := ⟨_, rfl⟩
    obtain ⟨j1, hj1⟩ : ∃ j1, j1 = (longR (trI n ss) s).1 := ⟨_, rfl⟩
    rw [← hn1, ← hj1] at HL HLW
    rw [← hn1] at hl1 HBst
    have hj1n : j1 < n := by
      rcases HLW.out with ⟨h, _⟩ | ⟨j, h1, h2, _⟩ <;> omega
    have hfl := fw_lt n ss n s.data.toList
    have HFs := hideH (HFi.out s (by unfold maxLen; omega))
    obtain ⟨fv, hfv⟩ : ∃ fv, fv = fwW n ss s.data.toList := ⟨_, rfl⟩
    rw [← hfv] at HFs
    rw [show fw (wl n ss) n s.data.toList = fv from hfv.symm] at hfl
    have HFV : Hid (fw (wl n ss) n s.data.toList = fv) := hfv.symm
    clear hfv
    clear hn1 hj1 f hP hf hn hck h0 HFit2
    generalize trI n ss = t at *
    have q1 : ¬ ((n1 : Int) < 0) := by omega
    have q2 : ¬ ((s.size : Int) < (n1 : Int)) := by omega
    have q3 : ¬ ((n : Int) ≤ j1) := by omega
    have q4 : ¬ ((n : Int) ≤ fv) := by omega
    have b1 : decide ((n1 : Int) < 0) = false := decide_eq_false q1
    have b2 : decide (s.size < n1) = false := decide_eq_false (by omega)
    have b3 : decide ((n : Int) ≤ j1) = false := decide_eq_false q3
    have b4 : decide ((n : Int) ≤ fv) = false := decide_eq_false q4
    clear hfl
    go_enter Try.func5, Try.ntmps5
    go_wp2_with fail
    refine HB.out.mono ?_
    rintro e w1 ⟨ta, tc, rfl, htr, hw1⟩
    have R1 := hideH htr
    have H1 := hideH hw1
    clear htr hw1 HB
    go_wp2_with fail
    refine (HFs.out _ _ _ R1.out).mono ?_
    rintro e w2 ⟨rfl, hw2⟩
    have R2 := hideH (R1.out.on hw2)
    have H2 := hideH (bthen H1.out hw2)
    clear hw2 R1 H1
    go_wp2_with fail
    refine (HL.out _ _ _ R2.out).mono ?_
    rintro e w3 ⟨rfl, hw3⟩
    have R3 := hideH (R2.out.on hw3)
    have H3 := hideH (bthen H2.out hw3)
    clear hw3 R2 H2 HL
    go_wp2_with fail
    refine (HC.out _ _ _ R3.out).mono ?_
    rintro e w4 ⟨rfl, hw4⟩
    have R4 := hideH (R3.out.on hw4)
    have H4 := hideH (bthen H3.out hw4)
    clear hw4 R3 H3 HC
    go_wp2_with fail
    clear q1 q2 q3 q4 b1 b2 b3 b4
    go_loopw [14, 15, 16] (fun x14 x15 x16 v => ∃ k : Nat, k ≤ n ∧ x14 = .int .i64 (fw (wl n ss) k s.data.toList) ∧ x15 = .int .i64 (bst s ss k) ∧ x16 = .int .i64 k ∧ Hid (TrL v ta t) ∧ Hid (Below w.heap.size w v)) (fun _ _ x16 _ => n - (intOf x16).toNat)
    case atStart => exact ⟨0, Nat.zero_le _, rfl, rfl, rfl, R4, H4⟩
    case round =>
      obtain ⟨k, hk, rfl, rfl, rfl, HT, HW⟩ := hrel
      have hbk := HBd.out k hk
      have hfg := fw_ge (wl n ss) k s.data.toList
      have hfl := fw_lt n ss k s.data.toList
      by_cases hlt : k < n
      · rcases HP.out.on HW.out with h0 | ⟨bb, off, hsa, hcs⟩
        · omega
        have d0 := hcs k hlt
        have h12 := HSz.out k hlt
        clear hcs
        have hki : (k : Int) < (n : Int) := by omega
        have HF1 := hideH (fw_step n ss k hlt s.data.toList)
        have HB1 : Hid (∀ h : isPre s (ss k), bst s ss (k + 1) = max (bst s ss k) (ss k).size) := fun h => bst_yes h
        have HB0 : Hid (∀ h : ¬ isPre s (ss k), bst s ss (k + 1) = bst s ss k) := fun h => bst_no h
        generalize bst s ss k = bk at *
        generalize fw (wl n ss) k s.data.toList = fk at *
        have hpre : (isPre s (ss k) ∧ (ss k).size ≤ s.size ∧ ((s.extract 0 (ss k).size).toList == (ss k).toList) = true) ∨ (¬ isPre s (ss k) ∧ (ss k).size ≤ s.size ∧ ((s.extract 0 (ss k).size).toList == (ss k).toList) = false) ∨ (¬ isPre s (ss k) ∧ ¬ (ss k).size ≤ s.size) := by
          by_cases hle : (ss k).size ≤ s.size
          · by_cases hp : isPre s (ss k)
            · exact .inl ⟨hp, hle, by rw [beq_tl, ext_take s hle]; exact decide_eq_true hp.2⟩
            · exact .inr (.inl ⟨hp, hle, by rw [beq_tl, ext_take s hle]; exact decide_eq_false (fun h => hp ⟨hle, h⟩)⟩)
          · exact .inr (.inr ⟨fun h => hle h.1, hle⟩)
        have hfst : (fw (wl n ss) (k + 1) s.data.toList = k ∧ ((ss k).toList == s.toList) = true ∧ fk < 0) ∨ (fw (wl n ss) (k + 1) s.data.toList = fk ∧ ((ss k).toList == s.toList) = true ∧ ¬ fk < 0) ∨ (fw (wl n ss) (k + 1) s.data.toList = fk ∧ ((ss k).toList == s.toList) = false) := by
          by_cases he : (ss k).data.toList = s.data.toList
          · have hb : ((ss k).toList == s.toList) = true := by rw [beq_tl]; exact decide_eq_true he
            by_cases h1 : fk = -1
            · left; exact ⟨by rw [HF1.out, if_pos h1, if_pos he], hb, by omega⟩
            · right; left; exact ⟨by rw [HF1.out, if_neg h1], hb, by omega⟩
          · have hb : ((ss k).toList == s.toList) = false := by rw [beq_tl]; exact decide_eq_false he
            right; right
            refine ⟨?_, hb⟩
            rw [HF1.out]
            split
            · rename_i h1; exact h1.symm
            · rfl
        clear HF1
        rcases hfst with ⟨hf1, hf2, hf3⟩ | ⟨hf1, hf2, hf3⟩ | ⟨hf1, hf2⟩
        all_goals
          have HFE := hideH hf1
          clear hf1
          rcases hpre with ⟨p1, p2, p3⟩ | ⟨p1, p2, p3⟩ | ⟨p1, p2⟩
        all_goals
          first
          | (have HBE := hideH (HB1.out p1); clear p1 HB1 HB0)
          | (have HBE := hideH (HB0.out p1); clear p1 HB1 HB0)
        all_goals
          try (have p2i : ((ss k).size : Int) ≤ (s.size : Int) := by omega)
          try (have p2j : ¬ (((ss k).size : Int) ≤ (s.size : Int)) := by omega)
          go_wp2_with fail
          go_quiet (fail)
          go_wp2_with fail
          try simp only [← hsa]
          go_roundw
          case rel => exact ⟨k + 1, by omega, by rw [HFE.out], by rw [HBE.out] <;> first | rfl | go_num | (simp; omega), by go_num, HT, below_drewN HW.out _⟩
          case measure => simp [intOf]; omega
      · obtain rfl : k = n := by omega
        have hki : ¬ ((k : Int) < (k : Int)) := by omega
        clear hfg hfl hbk
        rw [HFV.out, HBst.out]
        have hfv0 : (fv != fv) = false := by simp
        have hnn0 : ((n1 : Int) != (n1 : Int)) = false := by simp
        have HCh := hideH (fun (hk0 : 0 < k) => choose_natA i k hk0 hi.1 hi.2)
        have HEnd : Hid (k = 0 ∨ ∃ y z : Nat, y < k ∧ z ≤ y ∧ (∀ v, Calls Try.prog 19 #[.int .i64 i, .int .i64 k] v fun e w' => e = .returned (.int .i64 y) ∧ w' = v) ∧ (∀ ta tc v, TrL v ta t → Calls Try.prog 15 #[.slice ta t.length tc, .string (ss y)] v fun e w' => e = .returned (.tuple #[.int .i64 z, .int .i64 0]) ∧ Below v.heap.size v w') ∧ ((ss z).toList == (ss y).toList) = true) := by
          rcases Nat.eq_zero_or_pos k with h | h
          · exact .inl h
          · obtain ⟨y, hy, hcy⟩ := HCh.out h
            obtain ⟨z, hz1, hz2, hz3⟩ := fw_of ss hy
            refine .inr ⟨y, z, hy, hz1, hcy, fun ta tc v hv => ?_, by rw [beq_tl]; exact decide_eq_true hz3⟩
            have := HFi.out (ss y) (by have := HSz.out y hy; unfold maxLen; omega) ta tc v hv
            rwa [hz2] at this
        have HPw := hideH (HP.out.on HW.out)
        clear HCh HFi
        rcases HLW.out with ⟨h1, h2⟩ | ⟨j, hj, h1, h2, h3⟩
        · subst h2
          subst h1
          clear HLW hj1n hl1
          go_wp2_with fail
          go_quiet (fail)
          rcases HEnd.out with hk0 | ⟨y, z, hy, hz, hcy, hfy, hq⟩
          · subst hk0
            go_wp2_with fail
            refine (HBg.out _).mono ?_
            rintro e w5 ⟨rfl, hw5⟩
            go_wp2_with fail
            go_ret
            exact ⟨rfl, bthen (below_drewN HW.out _) hw5⟩
          · have hk0b : ((k : Int) == 0) = false := by simp; omega
            have HCY := hideH hcy
            have HFY := hideH hfy
            clear hcy hfy
            have hB1 := hideH (below_drewN (Below.refl wr.heap.size wr) nq)
            rcases HPw.out.on hB1.out with h0 | ⟨bb, off, hsa, hcs⟩
            · omega
            have dy := hcs y hy
            have dz := hcs z (by omega)
            clear hcs
            have hyi : (y : Int) < (k : Int) := by omega
            have hzi : (z : Int) < (k : Int) := by omega
            have hzy : (z : Int) ≤ (y : Int) := by omega
            go_wp2_with (go_at_call 19; refine (HCY.out _).mono ?_; rintro e w5 ⟨rfl, rfl⟩)
            refine (HFY.out _ _ _ (HT.out.on hB1.out)).mono ?_
            rintro e w6 ⟨rfl, hw6⟩
            have H6 := hideH (bthen (bthen HW.out hB1.out) hw6)
            have ey := cell_on dy hw6
            have ez := cell_on dz hw6
            clear dy dz hw6
            go_wp2_with fail
            go_region_held3 (fun v => v.cell? ⟨bb, off + z, none⟩ = some (.string (ss z)) ∧ v.cell? ⟨bb, off + y, none⟩ = some (.string (ss y)))
              (first | (exact ⟨ez, ey⟩) | (exact ⟨cell_on (w := w6.drew) ez hw7, cell_on (w := w6.drew) ey hw7⟩))
              ((go_at_call 11; refine (HBg.out _).mono ?_; rintro e w7 ⟨rfl, hw7⟩))
            all_goals
              go_wp2_with fail
              go_ret
              exact ⟨ret_bool (by simp), bthen (a := w6.drew) H6.out.drew hw7⟩
        · subst h1
          rcases HEnd.out with hk0 | ⟨y, z, hy, hz, hcy, hfy, hq⟩
          · omega
          have hk0b : ((k : Int) == 0) = false := by simp; omega
          have HCY := hideH hcy
          have HFY := hideH hfy
          clear hcy hfy HLW HEnd
          rcases HPw.out with h0 | ⟨bb, off, hsa, hcs⟩
          · omega
          have dj := hcs j hj
          have dy := hcs y hy
          have dz := hcs z (by omega)
          clear hcs
          have hji : (j : Int) < (k : Int) := by omega
          have hyi : (y : Int) < (k : Int) := by omega
          have hzi : (z : Int) < (k : Int) := by omega
          have hzy : (z : Int) ≤ (y : Int) := by omega
          have hnz : ((n1 : Int) == 0) = false := by simp; omega
          have hns : (n1 : Int) ≤ (s.size : Int) := by omega
          have hjq : ((ss j).toList == (s.extract 0 n1).toList) = true := by rw [beq_tl, ext_take s hl1]; exact decide_eq_true h2
          have hjq2 : ((ss j).toList != (s.extract 0 n1).toList) = false := by rw [bne, hjq]; rfl
          clear h2 hj1n
          go_wp2_with fail
          go_quiet (fail)
          have hB1 := hideH (below_drewN (Below.refl wr.heap.size wr) nq)
          go_wp2_with (go_at_call 19; refine (HCY.out _).mono ?_; rintro e w5 ⟨rfl, rfl⟩)
          refine (HFY.out _ _ _ (HT.out.on hB1.out)).mono ?_
          rintro e w6 ⟨rfl, hw6⟩
          have H6 := hideH (bthen (bthen HW.out hB1.out) hw6)
          have ey := cell_on (cell_on dy hB1.out) hw6
          have ez := cell_on (cell_on dz hB1.out) hw6
          clear dy dz dj hw6
          go_wp2_with fail
          go_region_held3 (fun v => v.cell? ⟨bb, off + z, none⟩ = some (.string (ss z)) ∧ v.cell? ⟨bb, off + y, none⟩ = some (.string (ss y)))
            (first | (exact ⟨ez, ey⟩) | (exact ⟨cell_on (w := w6.drew) ez hw7, cell_on (w := w6.drew) ey hw7⟩))
            ((go_at_call 11; refine (HBg.out _).mono ?_; rintro e w7 ⟨rfl, hw7⟩))
          all_goals
            go_wp2_with fail
            go_ret
            exact ⟨ret_bool (by simp), bthen (a := w6.drew) H6.out.drew hw7⟩
  · have HB := hideH (Build_no a n c ss w hn hP hf h0)
    have hne : (bldE n ss != 0) = true := by rw [bne_iff_ne]; exact h0
    generalize bldE n ss = be at *
    clear h0 hP hf hn
    go_enter Try.func5, Try.ntmps5
    go_wp2_with fail
    refine HB.out.mono ?_
    rintro e w1 ⟨rfl, hw1⟩
    have H1 := hideH hw1
    clear hw1
    go_wp2_with fail
    refine (HBg.out _).mono ?_
    rintro e w2 ⟨rfl, hw2⟩
    go_wp2_with fail
    go_ret
    exact ⟨rfl, bthen H1.out hw2⟩
end Go.Proofs.Ythkdjklpegmnnaa.Tri

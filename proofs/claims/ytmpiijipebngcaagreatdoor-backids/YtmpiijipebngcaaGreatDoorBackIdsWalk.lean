/- The walk of the statement BackIds: it returns true, and nothing that lay in memory has turned. -/
import Derived.Test.YtmpiijipebngcaaGreatDoorBackE
import Derived.Test.YtmpiijipebngcaaGreatDoorTrieQ
import Derived.Deep.QuietTactic
import Derived.BigQuiet
namespace Go.Proofs.YtmpiijipebngcaaGreatDoor
open Go Go.RowKit Go.Maps
set_option linter.unusedVariables false

theorem ws_id {X : Wd} {loc : ByteArray} {t : Int} (h : bwE X loc t 2 = 0) {j : Nat} (hj : j < X.D.nz) : wsB X loc t 2 j = (X.D.zs j).nm := by
  have hz := zone_told (uchk_ok (nchk_ok (bw_ok h).1).1).1 hj
  unfold wsB nmR
  rw [if_pos (zone_nm h hj)]
  unfold nmP
  rw [if_neg (by decide), if_pos rfl]
  unfold nmId
  rw [hz.1]
  rfl
theorem one_filter {p : Nat → Bool} {k : Nat} : ∀ n, k < n → p k = true → (∀ j, j < n → p j = true → j = k) → (List.range n).filter p = [k]
  | 0, h, _, _ => absurd h (Nat.not_lt_zero _)
  | n + 1, h, hp, hu => by
    rw [List.range_succ, List.filter_append]
    by_cases e : k = n
    · subst e
      have h0 : (List.range k).filter p = [] := by
        rw [List.filter_eq_nil_iff]
        intro j hj hq
        have hj := List.mem_range.1 hj
        have := hu j (by omega) hq
        omega
      rw [h0]
      simp [hp]
    · rw [one_filter n (by omega) hp (fun j hj hq => hu j (by omega) hq)]
      have : p n = false := by
        cases hq : p n with
        | false => rfl
        | true => exact absurd (hu n (Nat.lt_succ_self _) hq).symm e
      simp [this]
theorem id_found {X : Wd} {loc : ByteArray} {t : Int} (h : bwE X loc t 2 = 0) {k : Nat} (hk : k < X.D.nz) : prN X loc t 2 (X.D.zs k).nm = (X.D.zs k).nm.size ∧ prL X loc t 2 (X.D.zs k).nm = [(X.D.zs k).nm.data.toList] := by
  have hb := ws_bld h
  have f := Tri.long_facts hb (X.D.zs k).nm
  have hw : (Tri.longR (Tri.trI X.D.nz (wsB X loc t 2)) (X.D.zs k).nm).2 = (X.D.zs k).nm.size := by
    rcases Nat.lt_or_ge (Tri.longR (Tri.trI X.D.nz (wsB X loc t 2)) (X.D.zs k).nm).2 (X.D.zs k).nm.size with g | g
    · exfalso
      have h1 := f.more _ g (Nat.le_refl _)
      obtain ⟨z, hz1, hz2, hz3⟩ := Tri.fw_of (wsB X loc t 2) hk
      rw [ws_id h hk] at hz2
      rw [List.take_of_length_le (by rw [Tri.sz_len]; exact Nat.le_refl _)] at h1
      rw [h1] at hz2
      omega
    · have := f.le; omega
  refine ⟨hw, ?_⟩
  unfold prL
  have e1 : prN X loc t 2 (X.D.zs k).nm = (X.D.zs k).nm.size := hw
  rw [e1, List.take_of_length_le (by rw [Tri.sz_len]; exact Nat.le_refl _)]
  have e2 : clL X.D (wsB X loc t 2) (X.D.zs k).nm.data.toList X.D.nz = [(X.D.zs k).nm.data.toList] := by
    unfold clL
    rw [one_filter (k := k) X.D.nz hk (by rw [ws_id h hk]; simp) (fun j hj hq => ?_)]
    · rfl
    · rw [ws_id h hj] at hq
      have e3 : (X.D.zs j).nm = (X.D.zs k).nm := by
        have := beq_iff_eq.1 hq
        cases ha : (X.D.zs j).nm with
        | mk a => cases hc : (X.D.zs k).nm with
          | mk c =>
            rw [ha, hc] at this
            congr 1
            exact Array.toList_inj.1 this
      have hz := fun i (hi : i < X.D.nz) => (zone_told (uchk_ok (nchk_ok (bw_ok h).1).1).1 hi).1
      have h1 := hz j hj
      rw [e3, hz k hk] at h1
      omega
  rw [e2]
  simp [srt]
set_option maxRecDepth 100000 in
set_option maxHeartbeats 8000000 in
theorem BackIds_w (X : Wd) (loc : ByteArray) (t ci : Int) (w : World) (hE : NEnv w X) (hs0 : loc.size ≤ maxLen) (ht : -9223372036854775808 ≤ t ∧ t ≤ 9223372036854775807) (hci : -9223372036854775808 ≤ ci ∧ ci ≤ 9223372036854775807) : Calls Tryz.prog 9 #[X.v, .string loc, .int .i64 t, .int .i64 ci] w fun e w' => e = .returned (.bool true) ∧ Below w.heap.size w w' := by
  have HE := hideH hE
  have HB := hideH ((Below.refl _ w).alloc (Nat.le_refl _) (.cells X.cs 30))
  have HX := hideH (World.alloc_heap_new w (.cells X.cs 30))
  obtain ⟨c0, c1, c2, c3, c4⟩ := cells5n HX.out
  have HK := hideH (fun v (hv : Below w.heap.size w v) => NCheck_c X v (HE.out.on hv))
  have HG := hideH (fun v (hv : Below w.heap.size w v) => backBegun_c v (HE.out.on hv).ue.env.laid (HE.out.on hv).ue.env.mx)
  have hzl := hE.ue.dfit.nz
  unfold maxLen at hzl
  by_cases h0 : nchk X = 0
  · rw [h0] at HK
    by_cases hz : X.D.nz = 0
    · have hk0 : ((X.D.nz : Int) == 0) = true := by rw [hz]; rfl
      clear hz hE
      go_enter Tryz.func9, Tryz.ntmps9
      go_wp2_with fail
      refine (HK.out _ HB.out).mono ?_
      rintro e w1 ⟨rfl, hw⟩
      have H1 := hideH (bthen HB.out hw)
      have C1 := hideH (heap_on HX.out hw)
      clear hw c0 c1 c2 c3 c4
      obtain ⟨c0, c1, c2, c3, c4⟩ := cells5n C1.out
      go_wp2_with fail
      refine (HG.out _ H1.out).mono ?_
      rintro e w2 ⟨rfl, hw⟩
      go_wp2_with fail
      go_ret
      exact ⟨rfl, bthen H1.out hw⟩
    · have hk0 : ((X.D.nz : Int) == 0) = false := by rw [beq_eq_false_iff_ne]; omega
      have hz5 : X.D.nz ≤ 5 := (chk_all (uchk_ok (nchk_ok h0).1).1).1.1.2.1
      obtain ⟨j, hjl, hj⟩ : ∃ j : Nat, j < X.D.nz ∧ cho ci X.D.nz = j := by
        have hp' : (0 : Int) < X.D.nz := by omega
        have h1 : 0 ≤ cho ci X.D.nz ∧ cho ci X.D.nz < X.D.nz := by
          unfold cho
          split
          · exact ⟨Int.emod_nonneg _ (by omega), Int.emod_lt_of_pos _ hp'⟩
          · exact ⟨Int.emod_nonneg _ (by omega), Int.emod_lt_of_pos _ hp'⟩
        exact ⟨(cho ci X.D.nz).toNat, by omega, by omega⟩
      have HCH : Hid (∀ v, Calls Tryz.prog 21 #[.int .i64 ci, .int .i64 X.D.nz] v fun e w' => e = .returned (.int .i64 j) ∧ w' = v) := fun v => by
        have := choose_law ci X.D.nz v (by omega) (by omega) hci.1 hci.2
        rwa [hj] at this
      have hsz : (X.D.zs j).nm.size ≤ maxLen := hE.ue.dfit.znm j hjl
      have hP : ∀ v, Below w.heap.size w v → Calls Tryz.prog 23 #[X.v, .string loc, .string (X.D.zs j).nm, .int .i64 t, .int .i64 2] v fun e w' => (bwE X loc t 2 ≠ 0 ∧ e = .returned (.tuple #[.int .i64 0, .slice none 0 0, .int .i64 (bwE X loc t 2)]) ∨ bwE X loc t 2 = 0 ∧ ∃ a c, e = .returned (.tuple #[.int .i64 (X.D.zs j).nm.size, .slice a 1 c, .int .i64 0]) ∧ TX w' a [(X.D.zs j).nm.data.toList]) ∧ Below v.heap.size v w' := fun v hv => by
        by_cases hb : bwE X loc t 2 = 0
        · refine (Parse_ok (s := (X.D.zs j).nm) hb v (HE.out.on hv) hsz).mono ?_
          rw [(id_found hb hjl).1, (id_found hb hjl).2]
          rintro e w' ⟨a, c, rfl, -, htx, -, hw⟩
          exact ⟨.inr ⟨hb, a, c, rfl, htx⟩, hw⟩
        · refine (Parse_no (s := (X.D.zs j).nm) hb v (HE.out.on hv) hsz).mono ?_
          rintro e w' ⟨rfl, hw⟩
          exact ⟨.inl ⟨hb, rfl⟩, hw⟩
      have HP := hideH hP
      unfold maxLen at hsz
      clear hE hj h0 hz hP
      go_enter Tryz.func9, Tryz.ntmps9
      go_wp2_with fail
      refine (HK.out _ HB.out).mono ?_
      rintro e w1 ⟨rfl, hw⟩
      have H1 := hideH (bthen HB.out hw)
      have C1 := hideH (heap_on HX.out hw)
      clear hw c0 c1 c2 c3 c4 HX HB HK
      obtain ⟨c0, c1, c2, c3, c4⟩ := cells5n C1.out
      rcases (HE.out.on H1.out).ue.env.dat.zones with hn0 | ⟨b, off, hsa, hcs⟩
      · omega
      have f0 := (hcs j hjl).1
      have hP1 := HP.out
      simp only [Wd.v, hsa] at hP1
      have HP1 := hideH hP1
      have C1' := C1.out
      simp only [Wd.cs, hsa] at C1'
      have CC := hideH C1'
      rw [hsa] at c1
      clear hcs hsa hP1 HP C1' C1
      have hji : (j : Int) < (X.D.nz : Int) := by omega
      have hj0 : decide ((j : Int) < 0) = false := by simp
      have hjd : decide (X.D.nz ≤ j) = false := by simp; omega
      go_wp2_with fail
      go_quiet ((go_at_call 21; exact Calls.quiet_of_same (HCH.out _)))
      obtain ⟨W2, hW2⟩ : ∃ W2, W2 = w1.drewN nq := ⟨_, rfl⟩
      have hB2 : Below w1.heap.size w1 W2 := by rw [hW2]; exact below_drewN (Below.refl _ _) _
      simp only [← hW2]
      clear hW2
      have H2 := hideH (bthen H1.out hB2)
      have C2 := hideH (heap_on CC.out hB2)
      clear hB2 c0 c1 c2 c3 c4 f0 H1 CC
      obtain ⟨c0, c1, c2, c3, c4⟩ := cells5n C2.out
      go_wp2_with fail
      refine (HP1.out _ H2.out).mono ?_
      rintro e w3 ⟨⟨hb, rfl⟩ | ⟨hb, a3, k3, rfl, htx⟩, hw⟩
      · have hq : (bwE X loc t 2 != 0) = true := by rw [bne_iff_ne]; exact hb
        have H3 := hideH (bthen H2.out hw)
        clear hw hb
        go_wp2_with fail
        refine (HG.out _ H3.out).mono ?_
        rintro e w4 ⟨rfl, hw⟩
        go_wp2_with fail
        go_ret
        exact ⟨rfl, bthen H3.out hw⟩
      · have H3 := hideH (bthen H2.out hw)
        have T3 := hideH htx
        clear hw hb htx
        go_wp2_with fail
        refine (HG.out _ H3.out).mono ?_
        rintro e w4 ⟨rfl, hw⟩
        have H4 := hideH (bthen H3.out hw)
        have T4 := hideH (T3.out.on hw)
        clear hw H3 T3
        have bA := (Below.refl _ w4).alloc (Nat.le_refl _) (.cells #[.string (X.D.zs j).nm] 9)
        have HS : Hid (Calls Tryz.prog 27 #[.slice a3 1 k3, .slice (some ⟨w4.heap.size, 0, none⟩) 1 1] (w4.alloc (.cells #[.string (X.D.zs j).nm] 9)) fun e w' => e = .returned (.bool true) ∧ Below (w4.alloc (.cells #[.string (X.D.zs j).nm] 9)).heap.size (w4.alloc (.cells #[.string (X.D.zs j).nm] 9)) w') := by
          have := SameTexts_c a3 (some ⟨w4.heap.size, 0, none⟩) k3 1 [(X.D.zs j).nm.data.toList] [(X.D.zs j).nm.data.toList] _ (T4.out.on bA) (tx_one w4 (X.D.zs j).nm) (by simp) (by simp)
          rw [decide_eq_true rfl] at this
          exact this
        have H5 := hideH (bthen H4.out bA)
        clear bA
        go_wp2_with fail
        refine HS.out.mono ?_
        rintro e w5 ⟨rfl, hw⟩
        have H6 := hideH (bthen H5.out hw)
        clear hw
        go_wp2_with fail
        go_ret
        exact ⟨ret_bool (by simp), H6.out⟩
  · have hq : (nchk X != 0) = true := by rw [bne_iff_ne]; exact h0
    clear h0 hE
    generalize nchk X = K at *
    go_enter Tryz.func9, Tryz.ntmps9
    go_wp2_with fail
    refine (HK.out _ HB.out).mono ?_
    rintro e w1 ⟨rfl, hw⟩
    have H1 := hideH (bthen HB.out hw)
    clear hw
    go_wp2_with fail
    refine (HG.out _ H1.out).mono ?_
    rintro e w2 ⟨rfl, hw⟩
    go_wp2_with fail
    go_ret
    exact ⟨rfl, bthen H1.out hw⟩
end Go.Proofs.YtmpiijipebngcaaGreatDoor

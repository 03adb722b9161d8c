/- The document's own called, NameOf. -/
import Derived.Test.YtmpiijipebngcaaGreatDoorNamesT
namespace Go.Proofs.YtmpiijipebngcaaGreatDoor
open Go Go.RowKit Go.Maps
set_option linter.unusedVariables false

theorem clTx_no {X : Wd} {b : Int} {key alt : ByteArray} (h : (!(txt X.bs key X.bn b).toList.isEmpty) = false) : clTx X b key alt = alt := by unfold clTx; rw [h]; rfl
theorem clTx_yes {X : Wd} {b : Int} {key alt : ByteArray} (h : (!(txt X.bs key X.bn b).toList.isEmpty) = true) : clTx X b key alt = txt X.bs key X.bn b := by unfold clTx; rw [h]; rfl
set_option maxRecDepth 100000 in
set_option maxHeartbeats 8000000 in
theorem Rcalled_c (X : Wd) (b k : Nat) (t p : Int) (w : World) (hE : NEnv w X) (hn : nchk X = 0) (hb : b < X.bn) (hk : k < X.D.nz) (t0 : 0 ≤ t) (t1 : t < 1893456000) :
    Calls Tryz.prog 34 #[X.v, .int .i64 b, .int .i64 k, .int .i64 t, .int .i64 p] w fun e w' => e = .returned (.string (clK X b k t p)) ∧ Below w.heap.size w w' := by
  have HE := hideH hE
  have hc := (uchk_ok (nchk_ok hn).1).1
  obtain ⟨b1, b2, b3, -⟩ := bchk_parts (nchk_ok hn).2
  have hnm := nameB_12 (zone_name hc hk)
  have HB := hideH ((Below.refl _ w).alloc (Nat.le_refl _) (.cells X.cs 30))
  have HX := hideH (World.alloc_heap_new w (.cells X.cs 30))
  obtain ⟨c0, c1, c2, c3, c4⟩ := cells5n HX.out
  have hH : ∀ v, Below w.heap.size w v → _ := fun v (hv : Below w.heap.size w v) => holds_c X.D k t v (HE.out.on hv).ue.env.dat hc hk t0 t1
  have HO := hideH (fun v => OffText_c 3 ((offR X.D k t).tot - (offR X.D k t).tot.tmod 60) v)
  have HT1 := hideH (fun v (hv : Below w.heap.size w v) => RtextOf_c X.ba X.bn X.bc X.bs (X.D.zs k).nm b v (by omega) (HE.out.on hv).bat b2 b3 (by omega) (by omega))
  have HT2 := hideH (fun key v (hv : Below w.heap.size w v) => RtextOf_c X.ba X.bn X.bc X.bs key b v (by omega) (HE.out.on hv).bat b2 b3 (by omega) (by omega))
  have HM := hideH (fun v (hv : Below w.heap.size w v) => RmetaOf_c X.ua X.un X.uc X.us (X.D.zs k).nm t v (uchk_ok (nchk_ok hn).1).2.1 (HE.out.on hv).ue.at_)
  have HY := hideH (fun v => CityOf_c (X.D.zs k).nm v hnm.2)
  have hm12 : (metR X.us X.un (X.D.zs k).nm t).size ≤ 12 := by
    unfold metR
    split
    · rename_i j hj
      exact (nameB_12 ((uchk_ok (nchk_ok hn).1).2.2.1 j (List.mem_range.1 (List.mem_of_find?_eq_some hj)))).2
    · exact Nat.zero_le _
  have HNm := hideH (fun key v (h : key.size ≤ 14) => RIsName_c key v (by unfold maxLen; omega))
  have HTn := hideH (fun key (h : nameB key = false) => txt_name (bs := X.bs) (key := key) (nchk_ok hn).2 (b := (b : Int)) (by omega) (by omega) h)
  rcases (HE.out.on HB.out).ue.env.dat.zones with hn0 | ⟨zb, zo, hsa, hcs⟩
  · omega
  obtain ⟨f0, f1⟩ := hcs k hk
  have hkz := hE.ue.dfit.nz
  unfold maxLen at hkz
  have hki : (k : Int) < (X.D.nz : Int) := by omega
  have tb := tot_in hc
  have htot : -1000000 ≤ (offR X.D k t).tot ∧ (offR X.D k t).tot ≤ 1000000 := by
    have z := zone_told hc hk
    have := tb (X.D.zs k).nm t
    rw [ats_at z.2 z.1 ⟨t0, t1⟩] at this
    omega
  obtain ⟨V, hV⟩ : ∃ V, V = clK X b k t p := ⟨_, rfl⟩
  rw [← hV]
  have HV := hideH hV
  unfold clK clOff clKey at HV
  simp only [Dt.v, hsa] at hH
  rw [hsa] at c1
  have HH := hideH hH
  have hpc : p = 2 ∨ p = 4 ∨ p = 3 ∨ ((p == 2) = false ∧ (p == 4) = false ∧ (p == 3) = false ∧ p ≠ 2 ∧ p ≠ 4 ∧ p ≠ 3) := by
    simp only [beq_eq_false_iff_ne]
    omega
  simp only [Of.v] at HH
  clear hH hsa hcs f1 hV hE tb hc b2 b3 hn
  generalize offR X.D k t = o at *
  obtain ⟨x, x2, x3⟩ := o
  simp only at *
  have r1 := Int.tmod_lt_of_pos x (show (0 : Int) < 60 by omega)
  have r2 := Int.lt_tmod_of_pos x (show (0 : Int) < 60 by omega)
  generalize shwT 3 (x - x.tmod 60) = T1 at *
  generalize shwE 3 (x - x.tmod 60) = E1 at *
  generalize metR X.us X.un (X.D.zs k).nm t = M at *
  have hzi : (0 : Int) ≤ (k : Int) := by omega
  rcases hpc with h | h | h | ⟨p1, p2, p3, q1, q2, q3⟩
  focus
    rw [if_pos h] at HV
    subst h
  rotate_left
  focus
    rw [if_neg (by omega), if_pos h] at HV
    subst h
  rotate_left
  focus
    rw [if_neg (by omega), if_neg (by omega), if_pos h] at HV
    subst h
  rotate_left
  focus
    rw [if_neg q1, if_neg q2, if_neg q3] at HV
    clear q1 q2 q3
  rotate_left
  all_goals
    go_enter Tryz.func34, Tryz.ntmps34
    go_wp2_with fail
    refine (HH.out _ HB.out).mono ?_
    rintro e w1 ⟨rfl, hw⟩
    have b1' := (Below.refl _ w1).alloc (Nat.le_refl _) (ofC ⟨x, x2, x3⟩)
    have A1 := hideH (World.alloc_heap_new w1 (ofC ⟨x, x2, x3⟩))
    have H1 := hideH (bthen (bthen HB.out hw) b1')
    have C1 := hideH (heap_on (heap_on HX.out hw) b1')
    clear hw c0 c1 c2 c3 c4 HH b1' HX f0
    obtain ⟨d0, d1, d2⟩ := cells3 A1.out
    go_wp2_with fail
    refine (HO.out _).mono ?_
    rintro e w2 ⟨rfl, hw⟩
    have H2 := hideH (bthen H1.out hw)
    have C2 := hideH (heap_on C1.out hw)
    have A2 := hideH (heap_on A1.out hw)
    clear hw d0 d1 d2 C1 A1 H1 HO
    obtain ⟨c0, c1, c2, c3, c4⟩ := cells5n C2.out
    obtain ⟨d0, d1, d2⟩ := cells3 A2.out
  · go_wp2_with fail
    go_ret
    exact ⟨ret_str HV.out.symm, H2.out⟩
  · go_wp2_with fail
    refine (HT1.out _ H2.out).mono ?_
    rintro e w3 ⟨rfl, hw⟩
    have H3 := hideH (bthen H2.out hw)
    clear hw
    cases hb0 : (!(txt X.bs (X.D.zs k).nm X.bn b).toList.isEmpty)
    · rw [clTx_no hb0] at HV
      clear hb0
      go_wp2_with fail
      refine (HY.out _).mono ?_
      rintro e w4 ⟨rfl, hw⟩
      go_wp2_with fail
      go_ret
      exact ⟨ret_str HV.out.symm, bthen H3.out hw⟩
    · rw [clTx_yes hb0] at HV
      clear hb0
      go_wp2_with fail
      go_ret
      exact ⟨ret_str HV.out.symm, H3.out⟩
  · go_wp2_with fail
    refine (HM.out _ H2.out).mono ?_
    rintro e w3 ⟨rfl, hw⟩
    have H3 := hideH (bthen H2.out hw)
    have C3 := hideH (heap_on C2.out hw)
    have A3 := hideH (heap_on A2.out hw)
    clear hw d0 d1 d2 c0 c1 c2 c3 c4 C2 A2 H2 HM
    obtain ⟨c0, c1, c2, c3, c4⟩ := cells5n C3.out
    obtain ⟨d0, d1, d2⟩ := cells3 A3.out
    cases hm0 : (M.toList == ([] : List UInt8))
    · have hm12' : M.size ≤ 12 := hm12
      have hkey : ∃ K : ByteArray, K.size ≤ 14 ∧ ((x2 = 0 ∧ K = M ++ ⟨#[47, 115]⟩) ∨ ((x2 == 0) = false ∧ K = M ++ ⟨#[47, 100]⟩)) ∧ V = clTx X b K ⟨T1.toArray⟩ := by
        by_cases h : x2 = 0
        · refine ⟨M ++ ⟨#[47, 115]⟩, by rw [ByteArray.size_append]; show M.size + 2 ≤ 14; omega, .inl ⟨h, rfl⟩, ?_⟩
          have := HV.out
          rw [if_pos h] at this
          exact this
        · refine ⟨M ++ ⟨#[47, 100]⟩, by rw [ByteArray.size_append]; show M.size + 2 ≤ 14; omega, .inr ⟨beq_eq_false_iff_ne.2 h, rfl⟩, ?_⟩
          have := HV.out
          rw [if_neg h] at this
          exact this
      obtain ⟨K, hK14, hKc, hVK⟩ := hkey
      have HT3 := hideH (HT2.out K)
      have HN3 := hideH (fun v => HNm.out K v hK14)
      have HTK := hideH (HTn.out K)
      clear HV HT2 HNm HTn
      cases hb0 : (!(txt X.bs K X.bn b).toList.isEmpty)
      · have HV : Hid (V = ⟨T1.toArray⟩) := by show _ = _; rw [hVK, clTx_no hb0]
        rw [hb0] at HT3
        clear hVK hb0 HTK
        rcases hKc with ⟨rfl, rfl⟩ | ⟨h0, rfl⟩
        all_goals
          go_wp2_with fail
          refine (HT3.out _ H3.out).mono ?_
          rintro e w4 ⟨rfl, hw⟩
          go_wp2_with fail
          go_ret
          exact ⟨ret_str HV.out.symm, bthen H3.out hw⟩
      · have HV : Hid (V = txt X.bs K X.bn b) := by show _ = _; rw [hVK, clTx_yes hb0]
        have hnb : nameB K = true := by
          cases hh : nameB K with
          | true => rfl
          | false =>
            rw [HTK.out hh, emp0] at hb0
            cases hb0
        rw [hnb] at HN3
        rw [hb0] at HT3
        clear hVK hb0 HTK hnb
        generalize txt X.bs K X.bn b = TK at *
        rcases hKc with ⟨rfl, rfl⟩ | ⟨h0, rfl⟩
        all_goals
          go_wp2_with fail
          refine (HT3.out _ H3.out).mono ?_
          rintro e w4 ⟨rfl, hw⟩
          have H4 := hideH (bthen H3.out hw)
          clear hw
          go_wp2_with (go_at_call 13; refine (HN3.out _).mono ?_; rintro e w5 ⟨rfl, rfl⟩)
          go_ret
          exact ⟨ret_str HV.out.symm, H4.out⟩
    · have HVT : Hid (V = ⟨T1.toArray⟩) := by
        show _ = _
        have hM : M = ⟨#[]⟩ := by
          have h1 : M.data.toList = [] := by rw [tl] at hm0; simpa using hm0
          cases M with
          | mk a => congr 1; exact Array.toList_inj.1 h1
        rw [HV.out, hM, emp_app]
        split
        · exact clTx_no (by rw [HTn.out _ slash_s]; exact emp0)
        · exact clTx_no (by rw [HTn.out _ slash_d]; exact emp0)
      go_wp2_with fail
      go_ret
      exact ⟨ret_str HVT.out.symm, H3.out⟩
  · go_wp2_with fail
    go_ret
    exact ⟨ret_str HV.out.symm, H2.out⟩
end Go.Proofs.YtmpiijipebngcaaGreatDoor

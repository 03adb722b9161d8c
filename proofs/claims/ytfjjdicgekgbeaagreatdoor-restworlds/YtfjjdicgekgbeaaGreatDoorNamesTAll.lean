/- The document's own CheckWorld, NameError. What called answers (plain). -/
import Derived.Test.YtfjjdicgekgbeaaGreatDoorNamesR
import Derived.Test.YtfjjdicgekgbeaaGreatDoorNamesS
import Derived.Test.YtfjjdicgekgbeaaGreatDoorUsesSAll
import Derived.Test.YtfjjdicgekgbeaaGreatDoorBooksJAll
import Derived.Test.YtfjjdicgekgbeaaGreatDoorBooksLAll
import Derived.Test.YtfjjdicgekgbeaaGreatDoorRefWAll
import Derived.Test.YtfjjdicgekgbeaaGreatDoorRefGAll
import Derived.Test.YtfjjdicgekgbeaaGreatDoorOffsDAll
import Derived.Deep.RegionHeld3
namespace Go.Proofs.YtfjjdicgekgbeaaGreatDoor
open Go Go.RowKit Go.Maps
set_option linter.unusedVariables false

/-- what a zone is called, by a book's and a zone's number -/
def clOff (X : Wd) (k : Nat) (t : Int) : ByteArray := ⟨(shwT 3 ((offR X.D k t).tot - (offR X.D k t).tot.tmod 60)).toArray⟩
def clKey (X : Wd) (k : Nat) (t : Int) : ByteArray := metR X.us X.un (X.D.zs k).nm t ++ (if (offR X.D k t).sv = 0 then ⟨#[47, 115]⟩ else ⟨#[47, 100]⟩)
def clTx (X : Wd) (b : Int) (key alt : ByteArray) : ByteArray := if (!(txt X.bs key X.bn b).toList.isEmpty) = true then txt X.bs key X.bn b else alt
def clK (X : Wd) (b k : Nat) (t p : Int) : ByteArray := if p = 2 then (X.D.zs k).nm else if p = 4 then clTx X b (X.D.zs k).nm ⟨(cty (X.D.zs k).nm.data.toList).toArray⟩ else if p = 3 then clTx X b (clKey X k t) (clOff X k t) else clOff X k t
theorem txF_name {bs : Nat → Bk} {key : ByteArray} {n : Nat} (h : bchk n bs = 0) : ∀ (f : Nat) (p : Int), -1 ≤ p → p < n → nameB key = false → txF bs key f p = ⟨#[]⟩
  | 0, p, h0, h1, hk => rfl
  | f + 1, p, h0, h1, hk => by
    unfold txF
    split
    · rfl
    · rename_i hp
      split
      · rename_i i hi
        exfalso
        have h2 := (bchk_nam h p.toNat (by omega)).2 i (kix_in hi)
        unfold prB at h2
        rw [Bool.and_eq_true] at h2
        have h3 : ((bs p.toNat).ks i).data.toList = key.data.toList := by
          unfold kix at hi
          simpa using List.find?_some hi
        have h4 : (bs p.toNat).ks i = key := by
          cases hx : (bs p.toNat).ks i with
          | mk a => cases key with
            | mk c =>
              rw [hx] at h3
              congr 1
              exact Array.toList_inj.1 h3
        rw [h4] at h2
        rw [hk] at h2
        exact absurd h2.1 (by decide)
      · have := (bchk_parts h).2.2.1 p.toNat (by omega)
        exact txF_name h f _ this.1 (by omega) hk
theorem txt_name {bs : Nat → Bk} {key : ByteArray} {n : Nat} (h : bchk n bs = 0) {b : Int} (h0 : -1 ≤ b) (h1 : b < n) (hk : nameB key = false) : txt bs key n b = ⟨#[]⟩ := txF_name h _ _ h0 h1 hk
set_option maxRecDepth 100000 in
theorem slash_s : nameB ⟨#[47, 115]⟩ = false := by kernel_rfl
set_option maxRecDepth 100000 in
theorem slash_d : nameB ⟨#[47, 100]⟩ = false := by kernel_rfl
theorem emp_app (s : ByteArray) : (⟨#[]⟩ : ByteArray) ++ s = s := by
  cases s with
  | mk a => simp [ByteArray.ext_iff]
theorem bix_ok {X : Wd} {loc : ByteArray} (hn : nchk X = 0) (h : btE X.bs X.bn loc = 0) : ∃ b : Nat, bixI X.bs X.bn loc = b ∧ b < X.bn := by
  have hi := bixI_in X.bs X.bn loc
  unfold btE at h
  rw [if_pos (nchk_ok hn).2] at h
  split at h
  · cases h
  · exact ⟨(bixI X.bs X.bn loc).toNat, by omega, by omega⟩
theorem btT_at {X : Wd} {loc key : ByteArray} (hn : nchk X = 0) {b : Nat} (h : bixI X.bs X.bn loc = b) : btT X.bs X.bn loc key = txt X.bs key X.bn b := by
  unfold btT
  rw [if_pos (nchk_ok hn).2, h, if_neg (by omega)]
theorem ats_at {D : Dt} {zn : ByteArray} {k : Nat} {t : Int} (h : zonE D zn = 0) (hk : zonR D zn = k) (ht : 0 ≤ t ∧ t < 1893456000) : atsR D zn t = offR D k t := by
  unfold atsR
  rw [if_pos h, if_pos ht, hk]; rfl
theorem clK_nm {X : Wd} {loc zn : ByteArray} {t p : Int} {b k : Nat} (h : nmE X loc zn t p = 0) (hb : bixI X.bs X.bn loc = b) (hk : zonR X.D zn = k) (hkz : k < X.D.nz) : clK X b k t p = nmR X loc zn t p := by
  obtain ⟨n0, n1, n2, n3, n4, n5⟩ := nmE_ok h
  have ha := ats_at n3 hk ⟨n4, n5⟩
  have hnm := zone_name (uchk_ok (nchk_ok n0).1).1 hkz
  have hid : nmId X.D zn = (X.D.zs k).nm := by unfold nmId; rw [hk]; rfl
  have ho : nmOff X.D zn t = clOff X k t := by unfold nmOff clOff; rw [ha]
  have hu : umtR X.D X.un X.us zn t = metR X.us X.un (X.D.zs k).nm t := by
    unfold umtR umtE ucat
    rw [(nchk_ok n0).1, n3, hk]
    simp [n4, n5]
  have hky : nmKey X zn t = clKey X k t := by unfold nmKey clKey; rw [hu, ha]
  unfold nmR
  rw [if_pos h]
  unfold clK nmP
  by_cases p2 : p = 2
  · rw [if_pos p2, if_neg (by omega), if_pos p2, hid]
  · rw [if_neg p2]
    by_cases p4 : p = 4
    · rw [if_pos p4, if_neg (by omega), if_neg p2, if_neg (by omega)]
      unfold nmCity clTx
      rw [hid, btT_at n0 hb]
      have : ctB (X.D.zs k).nm = ⟨(cty (X.D.zs k).nm.data.toList).toArray⟩ := by unfold ctB; rw [if_pos hnm]
      rw [this]
    · rw [if_neg p4]
      by_cases p3 : p = 3
      · rw [if_pos p3, if_neg (by omega), if_neg p2, if_pos p3]
        unfold nmName clTx
        rw [hky, btT_at n0 hb, ho]
      · rw [if_neg p3, if_pos (by omega), ho]
set_option maxHeartbeats 4000000 in
theorem CheckWorld_c (X : Wd) (w : World) (hE : NEnv w X) : Calls Tryz.prog 4 #[X.v] w fun e w' => e = .returned (.int .i64 (nchk X)) ∧ Below w.heap.size w w' := by
  have HE := hideH hE
  have HB := hideH ((Below.refl _ w).alloc (Nat.le_refl _) (.cells X.cs 30))
  have HX := hideH (World.alloc_heap_new w (.cells X.cs 30))
  obtain ⟨c0, c1, c2, c3, c4⟩ := cells5n HX.out
  have HU := hideH (fun v (hv : Below w.heap.size w v) => RCheckUses_c X.D X.ua X.un X.uc X.us v (HE.out.on hv).ue.env.dat hE.ue.dfit hE.ue.len (HE.out.on hv).ue.at_ hE.ue.fit)
  have HK := hideH (fun v (hv : Below w.heap.size w v) => CheckBooks_c X.ba X.bn X.bc X.bs v hE.bl (HE.out.on hv).bat hE.bf)
  obtain ⟨V, hV⟩ : ∃ V, V = nchk X := ⟨_, rfl⟩
  rw [← hV]
  have HV := hideH hV
  unfold nchk at HV
  clear hV hE
  by_cases h : uchk X.D X.un X.us = 0
  · rw [if_pos h] at HV
    rw [h] at HU
    clear h
    generalize bchk X.bn X.bs = K at *
    go_enter Tryz.func4, Tryz.ntmps4
    go_wp2_with fail
    refine (HU.out _ HB.out).mono ?_
    rintro e w1 ⟨rfl, hw1⟩
    have H1 := hideH (bthen HB.out hw1)
    have C1 := hideH (heap_on HX.out hw1)
    clear hw1 c0 c1 c2 c3 c4 HX HU
    obtain ⟨c0, c1, c2, c3, c4⟩ := cells5n C1.out
    go_wp2_with fail
    refine (HK.out _ H1.out).mono ?_
    rintro e w2 ⟨rfl, hw2⟩
    go_wp2_with fail
    go_ret
    exact ⟨ret_int HV.out.symm, bthen H1.out hw2⟩
  · rw [if_neg h] at HV
    have hq : (uchk X.D X.un X.us != 0) = true := by rw [bne_iff_ne]; exact h
    clear h
    generalize uchk X.D X.un X.us = K at *
    go_enter Tryz.func4, Tryz.ntmps4
    go_wp2_with fail
    refine (HU.out _ HB.out).mono ?_
    rintro e w1 ⟨rfl, hw1⟩
    go_wp2_with fail
    go_ret
    exact ⟨ret_int HV.out.symm, bthen HB.out hw1⟩
/-- what NameError answers -/
def nerE (X : Wd) (loc : ByteArray) (p : Int) : Int := if nchk X = 0 then (if 1 ≤ p ∧ p ≤ 4 then (if btE X.bs X.bn loc = 0 then 0 else 4) else 8) else nchk X
set_option maxHeartbeats 4000000 in
theorem NameError_c (X : Wd) (loc : ByteArray) (t p : Int) (w : World) (hE : NEnv w X) : Calls Tryz.prog 22 #[X.v, .string loc, .int .i64 t, .int .i64 p] w fun e w' => e = .returned (.int .i64 (nerE X loc p)) ∧ Below w.heap.size w w' := by
  have HE := hideH hE
  have HB := hideH ((Below.refl _ w).alloc (Nat.le_refl _) (.cells X.cs 30))
  have HX := hideH (World.alloc_heap_new w (.cells X.cs 30))
  obtain ⟨c0, c1, c2, c3, c4⟩ := cells5n HX.out
  have HC := hideH (fun v (hv : Below w.heap.size w v) => CheckWorld_c X v (HE.out.on hv))
  obtain ⟨V, hV⟩ : ∃ V, V = nerE X loc p := ⟨_, rfl⟩
  rw [← hV]
  have HV := hideH hV
  unfold nerE at HV
  clear hV
  by_cases h : nchk X = 0
  · rw [if_pos h] at HV
    have hb4 := (bchk_parts (nchk_ok h).2).1
    have HK := hideH (fun v (hv : Below w.heap.size w v) => bookAt_c X.ba X.bn X.bc X.bs loc v (by omega) (HE.out.on hv).bat)
    have hbi := bixI_in X.bs X.bn loc
    have hbe : btE X.bs X.bn loc = if bixI X.bs X.bn loc < 0 then 4 else 0 := by unfold btE; rw [if_pos (nchk_ok h).2]
    rw [hbe] at HV
    rw [h] at HC
    clear h hE hbe
    generalize bixI X.bs X.bn loc = B at *
    have HWi := hideH (fun v => within_c p 1 4 v)
    by_cases q : 1 ≤ p ∧ p ≤ 4
    · rw [if_pos q] at HV
      have hin : inB p 1 4 = true := by unfold inB; simp; omega
      rw [hin] at HWi
      clear hin
      by_cases q2 : B < 0
      · rw [if_pos q2, if_neg (by decide)] at HV
        go_enter Tryz.func22, Tryz.ntmps22
        go_wp2_with fail
        refine (HC.out _ HB.out).mono ?_
        rintro e w1 ⟨rfl, hw1⟩
        have H1 := hideH (bthen HB.out hw1)
        have C1 := hideH (heap_on HX.out hw1)
        clear hw1 c0 c1 c2 c3 c4 HX HC
        obtain ⟨c0, c1, c2, c3, c4⟩ := cells5n C1.out
        go_wp2_with fail
        refine (HWi.out _).mono ?_
        rintro e w2 ⟨rfl, rfl⟩
        go_wp2_with fail
        refine (HK.out _ H1.out).mono ?_
        rintro e w3 ⟨rfl, hw3⟩
        go_wp2_with fail
        go_ret
        exact ⟨ret_int HV.out.symm, bthen H1.out hw3⟩
      · rw [if_neg q2, if_pos rfl] at HV
        go_enter Tryz.func22, Tryz.ntmps22
        go_wp2_with fail
        refine (HC.out _ HB.out).mono ?_
        rintro e w1 ⟨rfl, hw1⟩
        have H1 := hideH (bthen HB.out hw1)
        have C1 := hideH (heap_on HX.out hw1)
        clear hw1 c0 c1 c2 c3 c4 HX HC
        obtain ⟨c0, c1, c2, c3, c4⟩ := cells5n C1.out
        go_wp2_with fail
        refine (HWi.out _).mono ?_
        rintro e w2 ⟨rfl, rfl⟩
        go_wp2_with fail
        refine (HK.out _ H1.out).mono ?_
        rintro e w3 ⟨rfl, hw3⟩
        go_wp2_with fail
        go_ret
        exact ⟨ret_int HV.out.symm, bthen H1.out hw3⟩
    · rw [if_neg q] at HV
      have hin : inB p 1 4 = false := by unfold inB; simp; omega
      rw [hin] at HWi
      clear hin
      go_enter Tryz.func22, Tryz.ntmps22
      go_wp2_with fail
      refine (HC.out _ HB.out).mono ?_
      rintro e w1 ⟨rfl, hw1⟩
      go_wp2_with fail
      refine (HWi.out _).mono ?_
      rintro e w2 ⟨rfl, rfl⟩
      go_wp2_with fail
      go_ret
      exact ⟨ret_int HV.out.symm, bthen HB.out hw1⟩
  · rw [if_neg h] at HV
    have hq : (nchk X != 0) = true := by rw [bne_iff_ne]; exact h
    clear h hE
    generalize nchk X = K at *
    go_enter Tryz.func22, Tryz.ntmps22
    go_wp2_with fail
    refine (HC.out _ HB.out).mono ?_
    rintro e w1 ⟨rfl, hw1⟩
    go_wp2_with fail
    go_ret
    exact ⟨ret_int HV.out.symm, bthen HB.out hw1⟩
end Go.Proofs.YtfjjdicgekgbeaaGreatDoor

/- The document's own called, NameOf. -/
namespace Go.Proofs.YtfjjdicgekgbeaaGreatDoor
open Go Go.RowKit Go.Maps
set_option linter.unusedVariables false

theorem clTx_no {X : Wd} {b : Int} {key alt : ByteArray} (h : (!(txt X.bs key X.bn b).toList.isEmpty) = false) : clTx X b key alt = alt := by unfold clTx; rw [h]; rfl
theorem clTx_yes {X : Wd} {b : Int} {key alt : ByteArray} (h : (!(txt X.bs key X.bn b).toList.isEmpty) = true) : clTx X b key alt = txt X.bs key X.bn b := by unfold clTx; rw [h]; rfl
set_option maxRecDepth 100000 in
set_option maxHeartbeats 8000000 in
theorem Rcalled_c (X : Wd) (b k : Nat) (t p : Int) (w : World) (hE : NEnv w X) (hn : nchk X = 0) (hb : b < X.bn) (hk : k < X.D.nz) (t0 : 0 ≤ t) (t1 : t < 1893456000) :
    Calls Tryz.prog 24 #[X.v, .int .i64 b, .int .i64 k, .int .i64 t, .int .i64 p] w fun e w' => e = .returned (.string (clK X b k t p)) ∧ Below w.heap.size w w' := by
  have HE := hideH hE
  have hc := (uchk_ok (nchk_ok hn).1).1
  obtain ⟨b1, b2, b3, -⟩ := bchk_parts (nchk_ok hn).2
  have hnm := nameB_12 (zone_name hc hk)
  have HB := hideH ((Below.refl _ w).alloc (Nat.le_refl _) (.cells X.cs 30))
  have HX := hideH (World.alloc_heap_new w (.cells X.cs 30))
  obtain ⟨c0, c1, c2, c3, c4⟩ := cells5n HX.out
  have hH : ∀ v, Below w.heap.size w v → _ := fun v (hv : Below w.heap.size w v) => holds_c X.D k t v (HE.out.on hv).ue.env.dat hc hk t0 t1
  have HO := hideH (fun v => OffText_c 3 ((offR X.D k t).tot - (offR X.D k t).tot.tmod 60) v)
  have HT1 := hideH (fun v (hv : Below w.heap.size w v) => RtextOf_c X.ba X.bn X.bc X.bs (X.D.zs k).nm b v (by omega) (HE.out.on hv).bat b2 b3 (by omega) (by omega))
  have HT2 := hideH (fun key v (hv : Below w.heap.size w v) => RtextOf_c X.ba X.bn X.bc X.bs key b v (by omega) (HE.out.on hv).bat b2 b3 (by omega) (by omega))
  have HM := hideH (fun v (hv : Below w.heap.size w v) => RmetaOf_c X.ua X.un X.uc X.us (X.D.zs k).nm t v (uchk_ok (nchk_ok hn).1).2.1 (HE.out.on hv).ue.at_)
  have HY := hideH (fun v => CityOf_c (X.D.zs k).nm v hnm.2)
  have hm12 : (metR X.us X.un (X.D.zs k).nm t).size ≤ 12 := by
    unfold metR
    split
    · rename_i j hj
      exact (nameB_12 ((uchk_ok (nchk_ok hn).1).2.2.1 j (List.mem_range.1 (List.mem_of_find?_eq_some hj)))).2
    · exact Nat.zero_le _
  have HNm := hideH (fun key v (h : key.size ≤ 14) => RIsName_c key v (by unfold maxLen; omega))
  have HTn := hideH (fun key (h : nameB key = false) => txt_name (bs := X.bs) (key := key) (nchk_ok hn).2 (b := (b : Int)) (by omega) (by omega) h)
  rcases (HE.out.on HB.out).ue.env.dat.zones with hn0 | ⟨zb, zo, hsa, hcs⟩
  · omega
  obtain ⟨f0, f1⟩ := hcs k hk
  have hkz := hE.ue.dfit.nz
  unfold maxLen at hkz
  have hki : (k : Int) < (X.D.nz : Int) := by omega
  have tb := tot_in hc
  have htot : -1000000 ≤ (offR X.D k t).tot ∧ (offR X.D k t).tot ≤ 1000000 := by
    have z := zone_told hc hk
    have := tb (X.D.zs k).nm t
    rw [ats_at z.2 z.1 ⟨t0, t1⟩] at this
    omega
  obtain ⟨V, hV⟩ : ∃ V, V = clK X b k t p := ⟨_, rfl⟩
  rw [← hV]
  have HV := hideH hV
  unfold clK clOff clKey at HV
  simp only [Dt.v, hsa] at hH
  rw [hsa] at c1
  have HH := hideH hH
  have hpc : p = 2 ∨ p = 4 ∨ p = 3 ∨ ((p == 2) = false ∧ (p == 4) = false ∧ (p == 3) = false ∧ p ≠ 2 ∧ p ≠ 4 ∧ p ≠ 3) := by
    simp only [beq_eq_false_iff_ne]
    omega
  simp only [Of.v] at HH
  clear hH hsa hcs f1 hV hE tb hc b2 b3 hn
  generalize offR X.D k t = o at *
  obtain ⟨x, x2, x3⟩ := o
  simp only at *
  have r1 := Int.tmod_lt_of_pos x (show (0 : Int) < 60 by omega)
  have r2 := Int.lt_tmod_of_pos x (show (0 : Int) < 60 by omega)
  generalize shwT 3 (x - x.tmod 60) = T1 at *
  generalize shwE 3 (x - x.tmod 60) = E1 at *
  generalize metR X.us X.un (X.D.zs k).nm t = M at *
  have hzi : (0 : Int) ≤ (k : Int) := by omega
  rcases hpc with h | h | h | ⟨p1, p2, p3, q1, q2, q3⟩
  focus
    rw [if_pos h] at HV
    subst h
  rotate_left
  focus
    rw [if_neg (by omega), if_pos h] at HV
    subst h
  rotate_left
  focus
    rw [if_neg (by omega), if_neg (by omega), if_pos h] at HV
    subst h
  rotate_left
  focus
    rw [if_neg q1, if_neg q2, if_neg q3] at HV
    clear q1 q2 q3
  rotate_left
  all_goals
    go_enter Tryz.func24, Tryz.ntmps24
    go_wp2_with fail
    refine (HH.out _ HB.out).mono ?_
    rintro e w1 ⟨rfl, hw⟩
    have b1' := (Below.refl _ w1).alloc (Nat.le_refl _) (ofC ⟨x, x2, x3⟩)
    have A1 := hideH (World.alloc_heap_new w1 (ofC ⟨x, x2, x3⟩))
    have H1 := hideH (bthen (bthen HB.out hw) b1')
    have C1 := hideH (heap_on (heap_on HX.out hw) b1')
    clear hw c0 c1 c2 c3 c4 HH b1' HX f0
    obtain ⟨d0, d1, d2⟩ := cells3 A1.out
    go_wp2_with fail
    refine (HO.out _).mono ?_
    rintro e w2 ⟨rfl, hw⟩
    have H2 := hideH (bthen H1.out hw)
    have C2 := hideH (heap_on C1.out hw)
    have A2 := hideH (heap_on A1.out hw)
    clear hw d0 d1 d2 C1 A1 H1 HO
    obtain ⟨c0, c1, c2, c3, c4⟩ := cells5n C2.out
    obtain ⟨d0, d1, d2⟩ := cells3 A2.out
  · go_wp2_with fail
    go_ret
    exact ⟨ret_str HV.out.symm, H2.out⟩
  · go_wp2_with fail
    refine (HT1.out _ H2.out).mono ?_
    rintro e w3 ⟨rfl, hw⟩
    have H3 := hideH (bthen H2.out hw)
    clear hw
    cases hb0 : (!(txt X.bs (X.D.zs k).nm X.bn b).toList.isEmpty)
    · rw [clTx_no hb0] at HV
      clear hb0
      go_wp2_with fail
      refine (HY.out _).mono ?_
      rintro e w4 ⟨rfl, hw⟩
      go_wp2_with fail
      go_ret
      exact ⟨ret_str HV.out.symm, bthen H3.out hw⟩
    · rw [clTx_yes hb0] at HV
      clear hb0
      go_wp2_with fail
      go_ret
      exact ⟨ret_str HV.out.symm, H3.out⟩
  · go_wp2_with fail
    refine (HM.out _ H2.out).mono ?_
    rintro e w3 ⟨rfl, hw⟩
    have H3 := hideH (bthen H2.out hw)
    have C3 := hideH (heap_on C2.out hw)
    have A3 := hideH (heap_on A2.out hw)
    clear hw d0 d1 d2 c0 c1 c2 c3 c4 C2 A2 H2 HM
    obtain ⟨c0, c1, c2, c3, c4⟩ := cells5n C3.out
    obtain ⟨d0, d1, d2⟩ := cells3 A3.out
    cases hm0 : (M.toList == ([] : List UInt8))
    · have hm12' : M.size ≤ 12 := hm12
      have hkey : ∃ K : ByteArray, K.size ≤ 14 ∧ ((x2 = 0 ∧ K = M ++ ⟨#[47, 115]⟩) ∨ ((x2 == 0) = false ∧ K = M ++ ⟨#[47, 100]⟩)) ∧ V = clTx X b K ⟨T1.toArray⟩ := by
        by_cases h : x2 = 0
        · refine ⟨M ++ ⟨#[47, 115]⟩, by rw [ByteArray.size_append]; show M.size + 2 ≤ 14; omega, .inl ⟨h, rfl⟩, ?_⟩
          have := HV.out
          rw [if_pos h] at this
          exact this
        · refine ⟨M ++ ⟨#[47, 100]⟩, by rw [ByteArray.size_append]; show M.size + 2 ≤ 14; omega, .inr ⟨beq_eq_false_iff_ne.2 h, rfl⟩, ?_⟩
          have := HV.out
          rw [if_neg h] at this
          exact this
      obtain ⟨K, hK14, hKc, hVK⟩ := hkey
      have HT3 := hideH (HT2.out K)
      have HN3 := hideH (fun v => HNm.out K v hK14)
      have HTK := hideH (HTn.out K)
      clear HV HT2 HNm HTn
      cases hb0 : (!(txt X.bs K X.bn b).toList.isEmpty)
      · have HV : Hid (V = ⟨T1.toArray⟩) := by show _ = _; rw [hVK, clTx_no hb0]
        rw [hb0] at HT3
        clear hVK hb0 HTK
        rcases hKc with ⟨rfl, rfl⟩ | ⟨h0, rfl⟩
        all_goals
          go_wp2_with fail
          refine (HT3.out _ H3.out).mono ?_
          rintro e w4 ⟨rfl, hw⟩
          go_wp2_with fail
          go_ret
          exact ⟨ret_str HV.out.symm, bthen H3.out hw⟩
      · have HV : Hid (V = txt X.bs K X.bn b) := by show _ = _; rw [hVK, clTx_yes hb0]
        have hnb : nameB K = true := by
          cases hh : nameB K with
          | true => rfl
          | false =>
            rw [HTK.out hh, emp0] at hb0
            cases hb0
        rw [hnb] at HN3
        rw [hb0] at HT3
        clear hVK hb0 HTK hnb
        generalize txt X.bs K X.bn b = TK at *
        rcases hKc with ⟨rfl, rfl⟩ | ⟨h0, rfl⟩
        all_goals
          go_wp2_with fail
          refine (HT3.out _ H3.out).mono ?_
          rintro e w4 ⟨rfl, hw⟩
          have H4 := hideH (bthen H3.out hw)
          clear hw
          go_wp2_with (go_at_call 29; refine (HN3.out _).mono ?_; rintro e w5 ⟨rfl, rfl⟩)
          go_ret
          exact ⟨ret_str HV.out.symm, H4.out⟩
    · have HVT : Hid (V = ⟨T1.toArray⟩) := by
        show _ = _
        have hM : M = ⟨#[]⟩ := by
          have h1 : M.data.toList = [] := by rw [tl] at hm0; simpa using hm0
          cases M with
          | mk a => congr 1; exact Array.toList_inj.1 h1
        rw [HV.out, hM, emp_app]
        split
        · exact clTx_no (by rw [HTn.out _ slash_s]; exact emp0)
        · exact clTx_no (by rw [HTn.out _ slash_d]; exact emp0)
      go_wp2_with fail
      go_ret
      exact ⟨ret_str HVT.out.symm, H3.out⟩
  · go_wp2_with fail
    go_ret
    exact ⟨ret_str HV.out.symm, H2.out⟩
end Go.Proofs.YtfjjdicgekgbeaaGreatDoor

/- The document's own NameOf. -/
namespace Go.Proofs.YtfjjdicgekgbeaaGreatDoor
open Go Go.RowKit Go.Maps
set_option linter.unusedVariables false

/-- a world's box -/
abbrev bxW (b : Nat) (X : Wd) (v : World) : Prop := v.cell? ⟨b, 0, none⟩ = some (.slice X.D.sa X.D.ns X.D.sc) ∧ v.cell? ⟨b, 1, none⟩ = some (.slice X.D.za X.D.nz X.D.zc) ∧ v.cell? ⟨b, 2, none⟩ = some (.slice X.D.la X.D.nl X.D.lc) ∧ v.cell? ⟨b, 3, none⟩ = some (.slice X.ua X.un X.uc) ∧ v.cell? ⟨b, 4, none⟩ = some (.slice X.ba X.bn X.bc)
theorem bxW_on {w w' : World} {b : Nat} {X : Wd} (h : bxW b X w) (hb : Below w.heap.size w w') : bxW b X w' := ⟨cell_on h.1 hb, cell_on h.2.1 hb, cell_on h.2.2.1 hb, cell_on h.2.2.2.1 hb, cell_on h.2.2.2.2 hb⟩
theorem ner_bad {X : Wd} {loc zn : ByteArray} {t p : Int} (h : nerE X loc p ≠ 0) : nmE X loc zn t p = nerE X loc p := by
  unfold nerE at h ⊢
  unfold nmE
  split
  · rename_i h0
    rw [if_pos h0] at h
    split
    · rename_i h1
      rw [if_pos h1] at h
      by_cases h2 : btE X.bs X.bn loc = 0
      · rw [if_pos h2] at h; exact absurd rfl h
      · rw [if_neg h2, if_neg (fun g => h2 g.1)]
    · rfl
  · rfl
theorem ner_ok {X : Wd} {loc : ByteArray} {p : Int} (h : nerE X loc p = 0) : nchk X = 0 ∧ (1 ≤ p ∧ p ≤ 4) ∧ btE X.bs X.bn loc = 0 := by
  unfold nerE at h
  split at h
  · rename_i h0
    split at h
    · rename_i h1
      split at h
      · rename_i h2; exact ⟨h0, h1, h2⟩
      · cases h
    · cases h
  · rename_i h0; exact absurd h h0
theorem nmE_zone {X : Wd} {loc zn : ByteArray} {t p : Int} (h : nerE X loc p = 0) (hz : zonE X.D zn = 4) : nmE X loc zn t p = 4 := by
  obtain ⟨h0, h1, h2⟩ := ner_ok h
  unfold nmE
  rw [if_pos h0, if_pos h1, if_neg (by rw [hz]; intro g; exact absurd g.2 (by decide))]
theorem nmE_time {X : Wd} {loc zn : ByteArray} {t p : Int} (h : nerE X loc p = 0) (hz : zonE X.D zn = 0) (ht : ¬ (0 ≤ t ∧ t < 1893456000)) : nmE X loc zn t p = 3 := by
  obtain ⟨h0, h1, h2⟩ := ner_ok h
  unfold nmE
  rw [if_pos h0, if_pos h1, if_pos ⟨h2, hz⟩, if_neg ht]
theorem nmR_bad {X : Wd} {loc zn : ByteArray} {t p : Int} (h : nmE X loc zn t p ≠ 0) : nmR X loc zn t p = ⟨#[]⟩ := by unfold nmR; rw [if_neg h]
end Go.Proofs.YtfjjdicgekgbeaaGreatDoor

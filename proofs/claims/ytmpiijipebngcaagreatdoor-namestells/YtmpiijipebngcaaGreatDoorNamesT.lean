/- The document's own CheckWorld, NameError. What called answers (plain). -/
import Derived.Test.YtmpiijipebngcaaGreatDoorNamesR
import Derived.Test.YtmpiijipebngcaaGreatDoorNamesS
import Derived.Test.YtmpiijipebngcaaGreatDoorUsesR
import Derived.Test.YtmpiijipebngcaaGreatDoorUsesSAll
import Derived.Test.YtmpiijipebngcaaGreatDoorBooksJAll
import Derived.Test.YtmpiijipebngcaaGreatDoorBooksLAll
import Derived.Test.YtmpiijipebngcaaGreatDoorRefWAll
import Derived.Test.YtmpiijipebngcaaGreatDoorRefGAll
import Derived.Test.YtmpiijipebngcaaGreatDoorOffsE
namespace Go.Proofs.YtmpiijipebngcaaGreatDoor
open Go Go.RowKit Go.Maps
set_option linter.unusedVariables false

/-- what a zone is called, by a book's and a zone's number -/
def clOff (X : Wd) (k : Nat) (t : Int) : ByteArray := ⟨(shwT 3 ((offR X.D k t).tot - (offR X.D k t).tot.tmod 60)).toArray⟩
def clKey (X : Wd) (k : Nat) (t : Int) : ByteArray := metR X.us X.un (X.D.zs k).nm t ++ (if (offR X.D k t).sv = 0 then ⟨#[47, 115]⟩ else ⟨#[47, 100]⟩)
def clTx (X : Wd) (b : Int) (key alt : ByteArray) : ByteArray := if (!(txt X.bs key X.bn b).toList.isEmpty) = true then txt X.bs key X.bn b else alt
def clK (X : Wd) (b k : Nat) (t p : Int) : ByteArray := if p = 2 then (X.D.zs k).nm else if p = 4 then clTx X b (X.D.zs k).nm ⟨(cty (X.D.zs k).nm.data.toList).toArray⟩ else if p = 3 then clTx X b (clKey X k t) (clOff X k t) else clOff X k t
theorem txF_name {bs : Nat → Bk} {key : ByteArray} {n : Nat} (h : bchk n bs = 0) : ∀ (f : Nat) (p : Int), -1 ≤ p → p < n → nameB key = false → txF bs key f p = ⟨#[]⟩
  | 0, p, h0, h1, hk => rfl
  | f + 1, p, h0, h1, hk => by
    unfold txF
    split
    · rfl
    · rename_i hp
      split
      · rename_i i hi
        exfalso
        have h2 := (bchk_nam h p.toNat (by omega)).2 i (kix_in hi)
        unfold prB at h2
        rw [Bool.and_eq_true] at h2
        have h3 : ((bs p.toNat).ks i).data.toList = key.data.toList := by
          unfold kix at hi
          simpa using List.find?_some hi
        have h4 : (bs p.toNat).ks i = key := by
          cases hx : (bs p.toNat).ks i with
          | mk a => cases key with
            | mk c =>
              rw [hx] at h3
              congr 1
              exact Array.toList_inj.1 h3
        rw [h4] at h2
        rw [hk] at h2
        exact absurd h2.1 (by decide)
      · have := (bchk_parts h).2.2.1 p.toNat (by omega)
        exact txF_name h f _ this.1 (by omega) hk
theorem txt_name {bs : Nat → Bk} {key : ByteArray} {n : Nat} (h : bchk n bs = 0) {b : Int} (h0 : -1 ≤ b) (h1 : b < n) (hk : nameB key = false) : txt bs key n b = ⟨#[]⟩ := txF_name h _ _ h0 h1 hk
set_option maxRecDepth 100000 in
theorem slash_s : nameB ⟨#[47, 115]⟩ = false := by kernel_rfl
set_option maxRecDepth 100000 in
theorem slash_d : nameB ⟨#[47, 100]⟩ = false := by kernel_rfl
theorem emp_app (s : ByteArray) : (⟨#[]⟩ : ByteArray) ++ s = s := by
  cases s with
  | mk a => simp [ByteArray.ext_iff]
theorem bix_ok {X : Wd} {loc : ByteArray} (hn : nchk X = 0) (h : btE X.bs X.bn loc = 0) : ∃ b : Nat, bixI X.bs X.bn loc = b ∧ b < X.bn := by
  have hi := bixI_in X.bs X.bn loc
  unfold btE at h
  rw [if_pos (nchk_ok hn).2] at h
  split at h
  · cases h
  · exact ⟨(bixI X.bs X.bn loc).toNat, by omega, by omega⟩
theorem btT_at {X : Wd} {loc key : ByteArray} (hn : nchk X = 0) {b : Nat} (h : bixI X.bs X.bn loc = b) : btT X.bs X.bn loc key = txt X.bs key X.bn b := by
  unfold btT
  rw [if_pos (nchk_ok hn).2, h, if_neg (by omega)]
theorem ats_at {D : Dt} {zn : ByteArray} {k : Nat} {t : Int} (h : zonE D zn = 0) (hk : zonR D zn = k) (ht : 0 ≤ t ∧ t < 1893456000) : atsR D zn t = offR D k t := by
  unfold atsR
  rw [if_pos h, if_pos ht, hk]; rfl
theorem clK_nm {X : Wd} {loc zn : ByteArray} {t p : Int} {b k : Nat} (h : nmE X loc zn t p = 0) (hb : bixI X.bs X.bn loc = b) (hk : zonR X.D zn = k) (hkz : k < X.D.nz) : clK X b k t p = nmR X loc zn t p := by
  obtain ⟨n0, n1, n2, n3, n4, n5⟩ := nmE_ok h
  have ha := ats_at n3 hk ⟨n4, n5⟩
  have hnm := zone_name (uchk_ok (nchk_ok n0).1).1 hkz
  have hid : nmId X.D zn = (X.D.zs k).nm := by unfold nmId; rw [hk]; rfl
  have ho : nmOff X.D zn t = clOff X k t := by unfold nmOff clOff; rw [ha]
  have hu : umtR X.D X.un X.us zn t = metR X.us X.un (X.D.zs k).nm t := by
    unfold umtR umtE ucat
    rw [(nchk_ok n0).1, n3, hk]
    simp [n4, n5]
  have hky : nmKey X zn t = clKey X k t := by unfold nmKey clKey; rw [hu, ha]
  unfold nmR
  rw [if_pos h]
  unfold clK nmP
  by_cases p2 : p = 2
  · rw [if_pos p2, if_neg (by omega), if_pos p2, hid]
  · rw [if_neg p2]
    by_cases p4 : p = 4
    · rw [if_pos p4, if_neg (by omega), if_neg p2, if_neg (by omega)]
      unfold nmCity clTx
      rw [hid, btT_at n0 hb]
      have : ctB (X.D.zs k).nm = ⟨(cty (X.D.zs k).nm.data.toList).toArray⟩ := by unfold ctB; rw [if_pos hnm]
      rw [this]
    · rw [if_neg p4]
      by_cases p3 : p = 3
      · rw [if_pos p3, if_neg (by omega), if_neg p2, if_pos p3]
        unfold nmName clTx
        rw [hky, btT_at n0 hb, ho]
      · rw [if_neg p3, if_pos (by omega), ho]
set_option maxHeartbeats 4000000 in
theorem CheckWorld_c (X : Wd) (w : World) (hE : NEnv w X) : Calls Tryz.prog 17 #[X.v] w fun e w' => e = .returned (.int .i64 (nchk X)) ∧ Below w.heap.size w w' := by
  have HE := hideH hE
  have HB := hideH ((Below.refl _ w).alloc (Nat.le_refl _) (.cells X.cs 30))
  have HX := hideH (World.alloc_heap_new w (.cells X.cs 30))
  obtain ⟨c0, c1, c2, c3, c4⟩ := cells5n HX.out
  have HU := hideH (fun v (hv : Below w.heap.size w v) => RCheckUses_c X.D X.ua X.un X.uc X.us v (HE.out.on hv).ue.env.dat hE.ue.dfit hE.ue.len (HE.out.on hv).ue.at_ hE.ue.fit)
  have HK := hideH (fun v (hv : Below w.heap.size w v) => CheckBooks_c X.ba X.bn X.bc X.bs v hE.bl (HE.out.on hv).bat hE.bf)
  obtain ⟨V, hV⟩ : ∃ V, V = nchk X := ⟨_, rfl⟩
  rw [← hV]
  have HV := hideH hV
  unfold nchk at HV
  clear hV hE
  by_cases h : uchk X.D X.un X.us = 0
  · rw [if_pos h] at HV
    rw [h] at HU
    clear h
    generalize bchk X.bn X.bs = K at *
    go_enter Tryz.func17, Tryz.ntmps17
    go_wp2_with fail
    refine (HU.out _ HB.out).mono ?_
    rintro e w1 ⟨rfl, hw1⟩
    have H1 := hideH (bthen HB.out hw1)
    have C1 := hideH (heap_on HX.out hw1)
    clear hw1 c0 c1 c2 c3 c4 HX HU
    obtain ⟨c0, c1, c2, c3, c4⟩ := cells5n C1.out
    go_wp2_with fail
    refine (HK.out _ H1.out).mono ?_
    rintro e w2 ⟨rfl, hw2⟩
    go_wp2_with fail
    go_ret
    exact ⟨ret_int HV.out.symm, bthen H1.out hw2⟩
  · rw [if_neg h] at HV
    have hq : (uchk X.D X.un X.us != 0) = true := by rw [bne_iff_ne]; exact h
    clear h
    generalize uchk X.D X.un X.us = K at *
    go_enter Tryz.func17, Tryz.ntmps17
    go_wp2_with fail
    refine (HU.out _ HB.out).mono ?_
    rintro e w1 ⟨rfl, hw1⟩
    go_wp2_with fail
    go_ret
    exact ⟨ret_int HV.out.symm, bthen HB.out hw1⟩
/-- what NameError answers -/
def nerE (X : Wd) (loc : ByteArray) (p : Int) : Int := if nchk X = 0 then (if 1 ≤ p ∧ p ≤ 4 then (if btE X.bs X.bn loc = 0 then 0 else 4) else 8) else nchk X
set_option maxHeartbeats 4000000 in
theorem NameError_c (X : Wd) (loc : ByteArray) (t p : Int) (w : World) (hE : NEnv w X) : Calls Tryz.prog 31 #[X.v, .string loc, .int .i64 t, .int .i64 p] w fun e w' => e = .returned (.int .i64 (nerE X loc p)) ∧ Below w.heap.size w w' := by
  have HE := hideH hE
  have HB := hideH ((Below.refl _ w).alloc (Nat.le_refl _) (.cells X.cs 30))
  have HX := hideH (World.alloc_heap_new w (.cells X.cs 30))
  obtain ⟨c0, c1, c2, c3, c4⟩ := cells5n HX.out
  have HC := hideH (fun v (hv : Below w.heap.size w v) => CheckWorld_c X v (HE.out.on hv))
  obtain ⟨V, hV⟩ : ∃ V, V = nerE X loc p := ⟨_, rfl⟩
  rw [← hV]
  have HV := hideH hV
  unfold nerE at HV
  clear hV
  by_cases h : nchk X = 0
  · rw [if_pos h] at HV
    have hb4 := (bchk_parts (nchk_ok h).2).1
    have HK := hideH (fun v (hv : Below w.heap.size w v) => bookAt_c X.ba X.bn X.bc X.bs loc v (by omega) (HE.out.on hv).bat)
    have hbi := bixI_in X.bs X.bn loc
    have hbe : btE X.bs X.bn loc = if bixI X.bs X.bn loc < 0 then 4 else 0 := by unfold btE; rw [if_pos (nchk_ok h).2]
    rw [hbe] at HV
    rw [h] at HC
    clear h hE hbe
    generalize bixI X.bs X.bn loc = B at *
    have HWi := hideH (fun v => within_c p 1 4 v)
    by_cases q : 1 ≤ p ∧ p ≤ 4
    · rw [if_pos q] at HV
      have hin : inB p 1 4 = true := by unfold inB; simp; omega
      rw [hin] at HWi
      clear hin
      by_cases q2 : B < 0
      · rw [if_pos q2, if_neg (by decide)] at HV
        go_enter Tryz.func31, Tryz.ntmps31
        go_wp2_with fail
        refine (HC.out _ HB.out).mono ?_
        rintro e w1 ⟨rfl, hw1⟩
        have H1 := hideH (bthen HB.out hw1)
        have C1 := hideH (heap_on HX.out hw1)
        clear hw1 c0 c1 c2 c3 c4 HX HC
        obtain ⟨c0, c1, c2, c3, c4⟩ := cells5n C1.out
        go_wp2_with fail
        refine (HWi.out _).mono ?_
        rintro e w2 ⟨rfl, rfl⟩
        go_wp2_with fail
        refine (HK.out _ H1.out).mono ?_
        rintro e w3 ⟨rfl, hw3⟩
        go_wp2_with fail
        go_ret
        exact ⟨ret_int HV.out.symm, bthen H1.out hw3⟩
      · rw [if_neg q2, if_pos rfl] at HV
        go_enter Tryz.func31, Tryz.ntmps31
        go_wp2_with fail
        refine (HC.out _ HB.out).mono ?_
        rintro e w1 ⟨rfl, hw1⟩
        have H1 := hideH (bthen HB.out hw1)
        have C1 := hideH (heap_on HX.out hw1)
        clear hw1 c0 c1 c2 c3 c4 HX HC
        obtain ⟨c0, c1, c2, c3, c4⟩ := cells5n C1.out
        go_wp2_with fail
        refine (HWi.out _).mono ?_
        rintro e w2 ⟨rfl, rfl⟩
        go_wp2_with fail
        refine (HK.out _ H1.out).mono ?_
        rintro e w3 ⟨rfl, hw3⟩
        go_wp2_with fail
        go_ret
        exact ⟨ret_int HV.out.symm, bthen H1.out hw3⟩
    · rw [if_neg q] at HV
      have hin : inB p 1 4 = false := by unfold inB; simp; omega
      rw [hin] at HWi
      clear hin
      go_enter Tryz.func31, Tryz.ntmps31
      go_wp2_with fail
      refine (HC.out _ HB.out).mono ?_
      rintro e w1 ⟨rfl, hw1⟩
      go_wp2_with fail
      refine (HWi.out _).mono ?_
      rintro e w2 ⟨rfl, rfl⟩
      go_wp2_with fail
      go_ret
      exact ⟨ret_int HV.out.symm, bthen HB.out hw1⟩
  · rw [if_neg h] at HV
    have hq : (nchk X != 0) = true := by rw [bne_iff_ne]; exact h
    clear h hE
    generalize nchk X = K at *
    go_enter Tryz.func31, Tryz.ntmps31
    go_wp2_with fail
    refine (HC.out _ HB.out).mono ?_
    rintro e w1 ⟨rfl, hw1⟩
    go_wp2_with fail
    go_ret
    exact ⟨ret_int HV.out.symm, bthen HB.out hw1⟩
end Go.Proofs.YtmpiijipebngcaaGreatDoor

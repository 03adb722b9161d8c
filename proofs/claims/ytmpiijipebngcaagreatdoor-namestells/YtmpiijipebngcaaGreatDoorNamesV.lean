/- The document's own NameOf. -/
import Derived.Test.YtmpiijipebngcaaGreatDoorNamesU
import Derived.Deep.RegionHeld3
namespace Go.Proofs.YtmpiijipebngcaaGreatDoor
open Go Go.RowKit Go.Maps
set_option linter.unusedVariables false

/-- a world's box -/
abbrev bxW (b : Nat) (X : Wd) (v : World) : Prop := v.cell? ⟨b, 0, none⟩ = some (.slice X.D.sa X.D.ns X.D.sc) ∧ v.cell? ⟨b, 1, none⟩ = some (.slice X.D.za X.D.nz X.D.zc) ∧ v.cell? ⟨b, 2, none⟩ = some (.slice X.D.la X.D.nl X.D.lc) ∧ v.cell? ⟨b, 3, none⟩ = some (.slice X.ua X.un X.uc) ∧ v.cell? ⟨b, 4, none⟩ = some (.slice X.ba X.bn X.bc)
theorem bxW_on {w w' : World} {b : Nat} {X : Wd} (h : bxW b X w) (hb : Below w.heap.size w w') : bxW b X w' := ⟨cell_on h.1 hb, cell_on h.2.1 hb, cell_on h.2.2.1 hb, cell_on h.2.2.2.1 hb, cell_on h.2.2.2.2 hb⟩
theorem ner_bad {X : Wd} {loc zn : ByteArray} {t p : Int} (h : nerE X loc p ≠ 0) : nmE X loc zn t p = nerE X loc p := by
  unfold nerE at h ⊢
  unfold nmE
  split
  · rename_i h0
    rw [if_pos h0] at h
    split
    · rename_i h1
      rw [if_pos h1] at h
      by_cases h2 : btE X.bs X.bn loc = 0
      · rw [if_pos h2] at h; exact absurd rfl h
      · rw [if_neg h2, if_neg (fun g => h2 g.1)]
    · rfl
  · rfl
theorem ner_ok {X : Wd} {loc : ByteArray} {p : Int} (h : nerE X loc p = 0) : nchk X = 0 ∧ (1 ≤ p ∧ p ≤ 4) ∧ btE X.bs X.bn loc = 0 := by
  unfold nerE at h
  split at h
  · rename_i h0
    split at h
    · rename_i h1
      split at h
      · rename_i h2; exact ⟨h0, h1, h2⟩
      · cases h
    · cases h
  · rename_i h0; exact absurd h h0
theorem nmE_zone {X : Wd} {loc zn : ByteArray} {t p : Int} (h : nerE X loc p = 0) (hz : zonE X.D zn = 4) : nmE X loc zn t p = 4 := by
  obtain ⟨h0, h1, h2⟩ := ner_ok h
  unfold nmE
  rw [if_pos h0, if_pos h1, if_neg (by rw [hz]; intro g; exact absurd g.2 (by decide))]
theorem nmE_time {X : Wd} {loc zn : ByteArray} {t p : Int} (h : nerE X loc p = 0) (hz : zonE X.D zn = 0) (ht : ¬ (0 ≤ t ∧ t < 1893456000)) : nmE X loc zn t p = 3 := by
  obtain ⟨h0, h1, h2⟩ := ner_ok h
  unfold nmE
  rw [if_pos h0, if_pos h1, if_pos ⟨h2, hz⟩, if_neg ht]
theorem nmR_bad {X : Wd} {loc zn : ByteArray} {t p : Int} (h : nmE X loc zn t p ≠ 0) : nmR X loc zn t p = ⟨#[]⟩ := by unfold nmR; rw [if_neg h]
set_option maxRecDepth 100000 in
set_option maxHeartbeats 8000000 in
theorem NameOf_c (X : Wd) (loc zn : ByteArray) (t p : Int) (w : World) (hE : NEnv w X) (hs : zn.size ≤ maxLen) : Calls Tryz.prog 11 #[X.v, .string loc, .string zn, .int .i64 t, .int .i64 p] w fun e w' => e = .returned (.tuple #[.string (nmR X loc zn t p), .int .i64 (nmE X loc zn t p)]) ∧ Below w.heap.size w w' := by
  have HE := hideH hE
  have HB := hideH ((Below.refl _ w).alloc (Nat.le_refl _) (.cells X.cs 30))
  have HX := hideH (World.alloc_heap_new w (.cells X.cs 30))
  obtain ⟨c0, c1, c2, c3, c4⟩ := cells5n HX.out
  have HN := hideH (fun v (hv : Below w.heap.size w v) => NameError_c X loc t p v (HE.out.on hv))
  by_cases h : nerE X loc p = 0
  · obtain ⟨h0, h1, h2⟩ := ner_ok h
    have hc := (uchk_ok (nchk_ok h0).1).1
    have h4 : X.D.nl ≤ 4 := (chk_all hc).1.1.2.2
    have HF := hideH (fun v (hv : Below w.heap.size w v) => follow_c X.D zn v (HE.out.on hv).ue.env.dat hE.ue.dfit h4 hs)
    have HT := hideH (fun v => isTime_c t v)
    rcases fol_zon hc zn with ⟨hz, k, hk1, hk2, hkz⟩ | ⟨hz, hk1⟩
    · rw [hk1] at HF
      by_cases ht : 0 ≤ t ∧ t < 1893456000
      · have hm := nmE_to h0 h1 h2 hz ht
        obtain ⟨b, hb1, hb2⟩ := bix_ok h0 h2
        have hb4 := (bchk_parts (nchk_ok h0).2).1
        have HK := hideH (fun v (hv : Below w.heap.size w v) => bookAt_c X.ba X.bn X.bc X.bs loc v (by omega) (HE.out.on hv).bat)
        rw [hb1] at HK
        have HC := hideH (fun v (hv : Below w.heap.size w v) => Rcalled_c X b k t p v (HE.out.on hv) h0 hb2 hkz ht.1 ht.2)
        rw [clK_nm hm hb1 hk2 hkz] at HC
        rw [hm]
        rw [h] at HN
        have hin : inB t 0 1893455999 = true := by unfold inB; simp; omega
        rw [hin] at HT
        clear hE h h0 h1 h2 hc h4 hz hk1 hk2 hkz ht hm hb1 hb2 hb4 hin
        generalize nmR X loc zn t p = R at *
        go_enter Tryz.func11, Tryz.ntmps11
        go_wp2_with fail
        refine (HN.out _ HB.out).mono ?_
        rintro e w1 ⟨rfl, hw⟩
        have H1 := hideH (bthen HB.out hw)
        have C1 := hideH (heap_on HX.out hw)
        clear hw c0 c1 c2 c3 c4 HX HN
        obtain ⟨c0, c1, c2, c3, c4⟩ := cells5n C1.out
        go_wp2_with fail
        refine (HF.out _ H1.out).mono ?_
        rintro e w2 ⟨rfl, hw⟩
        have H2 := hideH (bthen H1.out hw)
        have C2 := hideH (heap_on C1.out hw)
        clear hw c0 c1 c2 c3 c4 HF C1 H1
        have C3 : Hid (bxW w.heap.size X w2) := cells5n C2.out
        have hk0 : (0 : Int) ≤ (k : Int) := by omega
        go_wp2_with fail
        refine (HT.out _).mono ?_
        rintro e w3 ⟨rfl, rfl⟩
        obtain ⟨c0, c1, c2, c3, c4⟩ := C3.out
        go_wp2_with fail
        go_region_held3 (fun v => bxW w.heap.size X v)
          (first | (exact C3.out) | (exact bxW_on (w := w3.drew) C3.out hw4) | (exact bxW_on (bxW_on (w := w3.drew) C3.out hw4) hw5))
          (first
          | (go_at_call 35; refine (HK.out _ (by exact H2.out.drew)).mono ?_; rintro e w4 ⟨rfl, hw4⟩)
          | (go_at_call 34; refine (HC.out _ (by exact bthen (w := w) (a := w3.drew) H2.out.drew hw4)).mono ?_; rintro e w5 ⟨rfl, hw5⟩))
        all_goals
          have H5 := hideH (bthen (bthen (w := w) (a := w3.drew) H2.out.drew hw4) hw5)
          clear hw4 hw5 c0 c1 c2 c3 c4
          go_wp2_with fail
          go_ret2
          exact ⟨rfl, H5.out⟩
      · have hm := nmE_time (t := t) h hz ht
        rw [nmR_bad (by rw [hm]; decide), hm]
        rw [h] at HN
        have hin : inB t 0 1893455999 = false := by unfold inB; simp; omega
        rw [hin] at HT
        clear hE h h0 h1 h2 hc h4 hz hk1 hk2 hkz ht hm hin
        have hk0 : (0 : Int) ≤ (k : Int) := by omega
        go_enter Tryz.func11, Tryz.ntmps11
        go_wp2_with fail
        refine (HN.out _ HB.out).mono ?_
        rintro e w1 ⟨rfl, hw⟩
        have H1 := hideH (bthen HB.out hw)
        have C1 := hideH (heap_on HX.out hw)
        clear hw c0 c1 c2 c3 c4 HX HN
        obtain ⟨c0, c1, c2, c3, c4⟩ := cells5n C1.out
        go_wp2_with fail
        refine (HF.out _ H1.out).mono ?_
        rintro e w2 ⟨rfl, hw⟩
        have H2 := hideH (bthen H1.out hw)
        clear hw c0 c1 c2 c3 c4 HF C1 H1
        go_wp2_with fail
        refine (HT.out _).mono ?_
        rintro e w3 ⟨rfl, rfl⟩
        go_wp2_with fail
        go_ret2
        exact ⟨rfl, H2.out⟩
    · rw [hk1] at HF
      have hm := nmE_zone (t := t) h hz
      rw [nmR_bad (by rw [hm]; decide), hm]
      rw [h] at HN
      clear hE h h0 h1 h2 hc h4 hz hk1 hm
      go_enter Tryz.func11, Tryz.ntmps11
      go_wp2_with fail
      refine (HN.out _ HB.out).mono ?_
      rintro e w1 ⟨rfl, hw⟩
      have H1 := hideH (bthen HB.out hw)
      have C1 := hideH (heap_on HX.out hw)
      clear hw c0 c1 c2 c3 c4 HX HN
      obtain ⟨c0, c1, c2, c3, c4⟩ := cells5n C1.out
      go_wp2_with fail
      refine (HF.out _ H1.out).mono ?_
      rintro e w2 ⟨rfl, hw⟩
      have H2 := hideH (bthen H1.out hw)
      clear hw c0 c1 c2 c3 c4 HF C1 H1
      go_wp2_with fail
      go_ret2
      exact ⟨rfl, H2.out⟩
  · have hm := ner_bad (zn := zn) (t := t) h
    rw [nmR_bad (by rw [hm]; exact h), hm]
    have hq : (nerE X loc p != 0) = true := by rw [bne_iff_ne]; exact h
    clear h hm hE
    generalize nerE X loc p = K at *
    go_enter Tryz.func11, Tryz.ntmps11
    go_wp2_with fail
    refine (HN.out _ HB.out).mono ?_
    rintro e w1 ⟨rfl, hw⟩
    go_wp2_with fail
    go_ret2
    exact ⟨rfl, bthen HB.out hw⟩
end Go.Proofs.YtmpiijipebngcaaGreatDoor

/- The walk of the statement NamesTrue: it returns true, and nothing that lay in memory has turned. -/
import Derived.Test.YtmpiijipebngcaaGreatDoorNamesDAll
import Derived.Test.YtmpiijipebngcaaGreatDoorNamesS
namespace Go.Proofs.YtmpiijipebngcaaGreatDoor
open Go Go.RowKit Go.Maps
set_option linter.unusedVariables false

set_option maxRecDepth 100000 in
set_option maxHeartbeats 8000000 in
theorem NamesTrue_w (X : Wd) (loc zn : ByteArray) (t p : Int) (w : World) (hE : NEnv w X) (hs0 : loc.size ≤ maxLen) (hs1 : zn.size ≤ maxLen) (ht : -9223372036854775808 ≤ t ∧ t ≤ 9223372036854775807) (hp : -9223372036854775808 ≤ p ∧ p ≤ 9223372036854775807) (hV : EV w) : Calls Tryz.prog 4 #[X.v, .string loc, .string zn, .int .i64 t, .int .i64 p] w fun e w' => e = .returned (.bool true) ∧ Below w.heap.size w w' := by
  have HE := hideH hE
  have HB := hideH ((Below.refl _ w).alloc (Nat.le_refl _) (.cells X.cs 30))
  have HC := hideH (World.alloc_heap_new w (.cells X.cs 30))
  have HN1 := hideH (fun v (hv : Below w.heap.size w v) => NName_c X loc zn t p v (HE.out.on hv) hs1)
  have HG := hideH (fun v (hv : Below w.heap.size w v) => namesBegun_c v (HE.out.on hv).ue.env.laid (HE.out.on hv).ue.env.mx)
  obtain ⟨c0, c1, c2, c3, c4⟩ := cells5n HC.out
  by_cases k1 : nmE X loc zn t p = 0
  · obtain ⟨n0, n1, n2, n3, n4, n5⟩ := nmE_ok k1
    obtain ⟨k, hk, hkz⟩ := zonE_in n3
    obtain ⟨z1, z2⟩ := nm_zone k1 hk hkz
    have k2 : nmE X loc zn t 1 = 0 := nmE_to n0 (by omega) n2 n3 ⟨n4, n5⟩
    obtain ⟨i1, i2⟩ := nm_in k1
    obtain ⟨a1, a2⟩ := tot_16 n0 zn t
    have hnz := hE.ue.dfit.nz
    unfold maxLen at hnz
    have HZ := hideH (fun v (hv : Below w.heap.size w v) => DZone_c X.D zn v (HE.out.on hv).ue.env hE.ue.dfit hs1)
    have HN2 := hideH (fun v (hv : Below w.heap.size w v) => NName_c X loc (X.D.zs k).nm t p v (HE.out.on hv) (hE.ue.dfit.znm k hkz))
    have HN3 := hideH (fun v (hv : Below w.heap.size w v) => NName_c X loc zn t 1 v (HE.out.on hv) hs1)
    have HA := hideH (fun v (hv : Below w.heap.size w v) => OAt_c X.D zn t v (HE.out.on hv).ue.env hE.ue.dfit hs1)
    have HR : Hid (∀ v, Below w.heap.size w v → Calls Tryz.prog 20 #[.int .i64 3, .string ⟨(shwT 3 (q60 (atsR X.D zn t).tot)).toArray⟩] v fun e w' => e = .returned (.tuple #[.int .i64 (q60 (atsR X.D zn t).tot), .int .i64 0]) ∧ Below v.heap.size v w') := by
      intro v hv
      rw [shw3 a1 a2]
      have := Read_c 3 (Ofs.sh 3 (q60 (atsR X.D zn t).tot)) (by have := (sh3_in (q60 (atsR X.D zn t).tot)).2; omega) v (hV.on hv)
      rw [(rd_show rfl (q60_off a1 a2)).1, (rd_show rfl (q60_off a1 a2)).2] at this
      exact this
    rw [k1] at HN1
    rw [n3, hk] at HZ
    rw [z1, z2] at HN2
    rw [k2, nm_off1 k2] at HN3
    rw [ats_to n3 ⟨n4, n5⟩] at HA
    simp only [Of.v] at HA
    clear hE hV n0 n1 n2 n3 n4 n5 z1 z2 k1 k2 hs0 hs1 hk
    generalize nmR X loc zn t p = R at *
    generalize atsR X.D zn t = o at *
    obtain ⟨x, x2, x3⟩ := o
    simp only at *
    generalize shwT 3 (q60 x) = T1 at *
    have hq : q60 x = x - x.tmod 60 := rfl
    generalize q60 x = qq at *
    have r1 := Int.tmod_lt_of_pos x (show (0 : Int) < 60 by omega)
    have r2 := Int.lt_tmod_of_pos x (show (0 : Int) < 60 by omega)
    subst hq
    have hem : (R.toList == ([] : List UInt8)) = false := by
      rw [tl]
      cases hs : R.data.toList with
      | nil =>
        have : R.data.toList.length = R.size := by simp
        rw [hs] at this
        simp at this
        omega
      | cons a l => rfl
    go_enter Tryz.func4, Tryz.ntmps4
    go_wp2_with fail
    refine (HN1.out _ HB.out).mono ?_
    rintro e w1 ⟨rfl, hw⟩
    have H1 := hideH (bthen HB.out hw)
    have C1 := hideH (heap_on HC.out hw)
    clear hw c0 c1 c2 c3 c4 HN1 HB HC
    obtain ⟨c0, c1, c2, c3, c4⟩ := cells5n C1.out
    go_wp2_with fail
    refine (HZ.out _ H1.out).mono ?_
    rintro e w2 ⟨rfl, hw⟩
    have H2 := hideH (bthen H1.out hw)
    have C2 := hideH (heap_on C1.out hw)
    clear hw c0 c1 c2 c3 c4 HZ H1 C1
    obtain ⟨c0, c1, c2, c3, c4⟩ := cells5n C2.out
    rcases (HE.out.on H2.out).ue.env.dat.zones with hn0 | ⟨b, off, hsa, hcs⟩
    · omega
    obtain ⟨f0, f1⟩ := hcs k hkz
    rw [hsa] at c1
    simp only [Wd.v, Dt.v, hsa] at HN2 HN3 HA
    have C2' := C2.out
    simp only [Wd.cs, hsa] at C2'
    have CC := hideH C2'
    clear hcs f1 hsa C2' C2
    have hki : (k : Int) < (X.D.nz : Int) := by omega
    go_wp2_with fail
    go_region_held3 (fun v => v.cell? ⟨w.heap.size, 0, none⟩ = some (.slice X.D.sa X.D.ns X.D.sc) ∧ v.cell? ⟨w.heap.size, 1, none⟩ = some (.slice (some ⟨b, off, none⟩) X.D.nz X.D.zc) ∧ v.cell? ⟨w.heap.size, 2, none⟩ = some (.slice X.D.la X.D.nl X.D.lc) ∧ v.cell? ⟨w.heap.size, 3, none⟩ = some (.slice X.ua X.un X.uc) ∧ v.cell? ⟨w.heap.size, 4, none⟩ = some (.slice X.ba X.bn X.bc) ∧ v.cell? ⟨b, off + k * 2, none⟩ = some (.string (X.D.zs k).nm))
      (first | (exact ⟨c0, c1, c2, c3, c4, f0⟩) | (exact ⟨cell_on (w := w2.drew) c0 hw3, cell_on (w := w2.drew) c1 hw3, cell_on (w := w2.drew) c2 hw3, cell_on (w := w2.drew) c3 hw3, cell_on (w := w2.drew) c4 hw3, cell_on (w := w2.drew) f0 hw3⟩))
      ((go_at_call 10; refine (HN2.out _ H2.out.drew).mono ?_; rintro e w3 ⟨rfl, hw3⟩))
    all_goals
      have H3 := hideH (bthen (a := w2.drew) H2.out.drew hw3)
      have C3 := hideH (heap_on (w := w2.drew) CC.out hw3)
      clear c0 c1 c2 c3 c4 f0 hw3 HN2 H2 CC
      obtain ⟨c0, c1, c2, c3, c4⟩ := cells5n C3.out
      go_wp2_with fail
      refine (HN3.out _ H3.out).mono ?_
      rintro e w4 ⟨rfl, hw⟩
      have H4 := hideH (bthen H3.out hw)
      have C4 := hideH (heap_on C3.out hw)
      clear hw c0 c1 c2 c3 c4 HN3 H3 C3
      obtain ⟨c0, c1, c2, c3, c4⟩ := cells5n C4.out
      go_wp2_with fail
      refine (HA.out _ H4.out).mono ?_
      rintro e w5 ⟨rfl, hw⟩
      have b5 := (Below.refl _ w5).alloc (Nat.le_refl _) (ofC ⟨x, x2, x3⟩)
      have A5 := hideH (World.alloc_heap_new w5 (ofC ⟨x, x2, x3⟩))
      have H5 := hideH (bthen (bthen H4.out hw) b5)
      clear hw c0 c1 c2 c3 c4 HA H4 C4 b5
      go_wp2_with fail
      refine (HR.out _ H5.out).mono ?_
      rintro e w6 ⟨rfl, hw⟩
      have H6 := hideH (bthen H5.out hw)
      have A6 := hideH (heap_on A5.out hw)
      clear hw H5 A5
      go_wp2_with fail
      refine (HG.out _ H6.out).mono ?_
      rintro e w7 ⟨rfl, hw⟩
      have H7 := hideH (bthen H6.out hw)
      obtain ⟨d0, d1, d2⟩ := cells3 (heap_on A6.out hw)
      clear hw H6 A6
      go_wp2_with fail
      go_ret
      exact ⟨rfl, H7.out⟩
  · have hne : (nmE X loc zn t p != 0) = true := by rw [bne_iff_ne]; exact k1
    generalize nmE X loc zn t p = e1 at *
    generalize nmR X loc zn t p = r1 at *
    clear k1 hE hV hs0 hs1
    go_enter Tryz.func4, Tryz.ntmps4
    go_wp2_with fail
    refine (HN1.out _ HB.out).mono ?_
    rintro e w1 ⟨rfl, hw⟩
    have H1 := hideH (bthen HB.out hw)
    clear hw
    go_wp2_with fail
    refine (HG.out _ H1.out).mono ?_
    rintro e w5 ⟨rfl, hw⟩
    go_wp2_with fail
    go_ret
    exact ⟨rfl, bthen H1.out hw⟩
end Go.Proofs.YtmpiijipebngcaaGreatDoor

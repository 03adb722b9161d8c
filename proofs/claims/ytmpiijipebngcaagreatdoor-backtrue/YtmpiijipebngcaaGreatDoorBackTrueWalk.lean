/- The walk of the statement BackTrue: it returns true, and nothing that lay in memory has turned. -/
import Derived.Test.YtmpiijipebngcaaGreatDoorBackH
import Derived.Deep.RegionHeld3
import Derived.Laws.Cover1
import Derived.Deep.QuietTactic
import Derived.BigQuiet
namespace Go.Proofs.YtmpiijipebngcaaGreatDoor
open Go Go.RowKit Go.Maps
set_option linter.unusedVariables false

theorem wrap_nuB {n : Int} (h0 : 0 ≤ n) (h1 : n < 9223372036854775808) : IntKind.i64.wrap n = n := by
  have h64 : IntKind.i64.bits = 64 := rfl
  have hsg : IntKind.i64.signed = true := rfl
  unfold IntKind.wrap
  rw [h64, hsg]
  simp only [Bool.true_and]
  rw [Int.emod_eq_of_lt h0 (by omega)]
  simp
  omega
set_option maxRecDepth 100000 in
set_option maxHeartbeats 8000000 in
theorem BackTrue_w (X : Wd) (loc zn : ByteArray) (t p : Int) (bh : ByteArray) (w : World) (hE : NEnv w X) (hs0 : loc.size ≤ maxLen) (hs1 : zn.size ≤ maxLen) (ht : -9223372036854775808 ≤ t ∧ t ≤ 9223372036854775807) (hp : -9223372036854775808 ≤ p ∧ p ≤ 9223372036854775807) (hbh : bh.size ≤ 140737488355328) : Calls Tryz.prog 8 #[X.v, .string loc, .string zn, .int .i64 t, .int .i64 p, .string bh] w fun e w' => e = .returned (.bool true) ∧ Below w.heap.size w w' := by
  have HE := hideH hE
  have HB := hideH ((Below.refl _ w).alloc (Nat.le_refl _) (.cells X.cs 30))
  have HX := hideH (World.alloc_heap_new w (.cells X.cs 30))
  obtain ⟨c0, c1, c2, c3, c4⟩ := cells5n HX.out
  have HN := hideH (fun v (hv : Below w.heap.size w v) => NName_c X loc zn t p v (HE.out.on hv) hs1)
  have HG := hideH (fun v (hv : Below w.heap.size w v) => backBegun_c v (HE.out.on hv).ue.env.laid (HE.out.on hv).ue.env.mx)
  by_cases h : nmE X loc zn t p = 0
  · obtain ⟨k, F⟩ := found h
    have hin := nm_in h
    have hnz := ws_nz F.bw
    have HF := hideH F
    rw [h] at HN
    obtain ⟨R, hR⟩ : ∃ R, R = nmR X loc zn t p := ⟨_, rfl⟩
    rw [← hR] at HN HF hin
    have hkz := F.kz
    have HP1 := hideH (fun v (hv : Below w.heap.size w v) => Parse_ok (s := R ++ bh) HF.out.bw v (HE.out.on hv) (by rw [ByteArray.size_append]; unfold maxLen; omega))
    have HP2 := hideH (fun v (hv : Below w.heap.size w v) => Parse_ok (s := R) HF.out.bw v (HE.out.on hv) (by unfold maxLen; omega))
    have HZ := hideH (fun v (hv : Below w.heap.size w v) => DZone_c X.D zn v (HE.out.on hv).ue.env hE.ue.dfit hs1)
    rw [HF.out.zr, HF.out.ze] at HZ
    rw [HF.out.n1] at HP2
    have hge := HF.out.ge bh
    have hle := pr_le HF.out.bw (R ++ bh)
    rw [ByteArray.size_append] at hle
    have HL5 := hideH (prL_len5 HF.out.bw R)
    have HNj : Hid (∀ q, q < (prL X loc t p R).length → ∀ v, Below w.heap.size w v → Calls Tryz.prog 10 #[X.v, .string loc, .string ⟨((prL X loc t p R)[q]?.getD []).toArray⟩, .int .i64 t, .int .i64 p] v fun e w' => e = .returned (.tuple #[.string R, .int .i64 0]) ∧ Below v.heap.size v w') := fun q hq v hv => by
      obtain ⟨j, j1, j2, j3⟩ := HF.out.each q hq
      rw [j2, ba_mk]
      have := NName_c X loc (X.D.zs j).nm t p v (HE.out.on hv) (hE.ue.dfit.znm j j1)
      rw [zone_nm HF.out.bw j1, j3] at this
      exact this
    have HUp := hideH HF.out.up
    have HAny : Hid ((prL X loc t p R).any (· == (X.D.zs k).nm.data.toList) = true) := HF.out.any
    clear F hE h hR HF
    generalize prL X loc t p R = L at *
    generalize prL X loc t p (R ++ bh) = L2 at *
    generalize prN X loc t p (R ++ bh) = N2 at *
    obtain ⟨N, hN⟩ : ∃ N, N = L.length := ⟨_, rfl⟩
    have HNL := hideH hN
    have hN5 : N ≤ 5 := by have := HL5.out; omega
    rw [← hN] at HP2
    clear hN
    go_enter Tryz.func8, Tryz.ntmps8
    go_wp2_with fail
    refine (HN.out _ HB.out).mono ?_
    rintro e w1 ⟨rfl, hw⟩
    have H1 := hideH (bthen HB.out hw)
    have C1 := hideH (heap_on HX.out hw)
    clear hw c0 c1 c2 c3 c4 HX HB HN
    obtain ⟨c0, c1, c2, c3, c4⟩ := cells5n C1.out
    have hsum : (R.size : Int) + (bh.size : Int) ≤ 9223372036854775807 := by omega
    have hsum2 : (9223372036854775807 < R.size + bh.size) = False := by simp; omega
    go_wp2_with fail
    refine (HP1.out _ H1.out).mono ?_
    rintro e w2 ⟨a2, k2, rfl, -, -, -, hw⟩
    have H2 := hideH (bthen H1.out hw)
    have C2 := hideH (heap_on C1.out hw)
    clear hw c0 c1 c2 c3 c4 HP1 H1 C1
    obtain ⟨c0, c1, c2, c3, c4⟩ := cells5n C2.out
    go_wp2_with fail
    refine (HP2.out _ H2.out).mono ?_
    rintro e w3 ⟨a3, k3, rfl, -, htx, -, hw⟩
    have H3 := hideH (bthen H2.out hw)
    have C3 := hideH (heap_on C2.out hw)
    have T3 := hideH htx
    clear hw htx c0 c1 c2 c3 c4 HP2 H2 C2
    obtain ⟨c0, c1, c2, c3, c4⟩ := cells5n C3.out
    go_wp2_with fail
    refine (HZ.out _ H3.out).mono ?_
    rintro e w4 ⟨rfl, hw⟩
    have H4 := hideH (bthen H3.out hw)
    have C4 := hideH (heap_on C3.out hw)
    have T4 : Hid (P1 w4 a3 N (fun j => encStr (L[j]?.getD []))) := by
      have := T3.out.on hw
      unfold TX at this
      rw [← HNL.out] at this
      exact this
    clear hw c0 c1 c2 c3 c4 HZ H3 C3 T3
    obtain ⟨c0, c1, c2, c3, c4⟩ := cells5n C4.out
    have hki : (k : Int) < (X.D.nz : Int) := by omega
    have hk0 : (0 : Int) ≤ (k : Int) := by omega
    have hk1 : decide ((k : Int) < 0) = false := by simp
    have hkd : decide (X.D.nz ≤ k) = false := by simp; omega
    have hd1 : decide (N2 < R.size) = false := by simp; omega
    have hd2 : decide ((R.size : Int) + (bh.size : Int) < (N2 : Int)) = false := by simp; omega
    have hd3 : decide (R.size + bh.size < N2) = false := by simp; omega
    have h21 : ¬ ((N2 : Int) < (R.size : Int)) := by omega
    have h22 : ¬ ((R.size : Int) + (bh.size : Int) < (N2 : Int)) := by omega
    have h23 : ¬ (((R.size + bh.size : Nat) : Int) < (N2 : Int)) := by omega
    go_wp2_with fail
    clear c0 c1 c2 c3 c4
    go_loopw [23, 24] (fun x23 x24 v => ∃ (q : Nat) (bb : Bool), q ≤ N ∧ x24 = .int .i64 q ∧ x23 = .bool bb ∧ Hid (bb = (L.take q).any (· == (X.D.zs k).nm.data.toList)) ∧ Hid (Below w4.heap.size w4 v)) (fun _ x24 _ => N - (intOf x24).toNat)
    case atStart => exact ⟨0, false, Nat.zero_le _, rfl, rfl, rfl, Below.refl _ _⟩
    case round =>
      obtain ⟨q, bb, hq, rfl, rfl, HBB, HW⟩ := hrel
      have CW := hideH (heap_on C4.out HW.out)
      obtain ⟨c0, c1, c2, c3, c4⟩ := cells5n CW.out
      by_cases hlt : q < N
      · rcases P1.on T4.out HW.out with h0 | ⟨bz, oz, hsz, hcz⟩
        · omega
        have e1 : wr.cell? ⟨bz, oz + q, none⟩ = some (.string ⟨(L[q]?.getD []).toArray⟩) := hcz q hlt
        rcases (HE.out.on (bthen H4.out HW.out)).ue.env.dat.zones with h0 | ⟨b, off, hsa, hcs⟩
        · omega
        have d0 : wr.cell? ⟨b, off + k * 2, none⟩ = some (.string (X.D.zs k).nm) := (hcs k hkz).1
        clear hcs
        rw [hsa] at c1
        have hNq := HNj.out q (by have := HNL.out; omega)
        simp only [Wd.v, hsa] at hNq
        have HNq := hideH hNq
        clear hsa hNq
        have hq0 : decide ((q : Int) < 0) = false := by simp
        have hqd : decide (N ≤ q) = false := by simp; omega
        have hqi : (q : Int) < (N : Int) := by omega
        have HNB := hideH (any_takeB (L := L) (q := q) (by have := HNL.out; omega) (X.D.zs k).nm.data.toList)
        have hprev : q = 0 ∨ ∃ p' : Nat, q = p' + 1 := by
          cases q with
          | zero => exact .inl rfl
          | succ p' => exact .inr ⟨p', rfl⟩
        have HKEY : Hid (∀ v : Bool, ((L[q]?.getD []) == (X.D.zs k).nm.data.toList) = v → (L[q]?.getD [] == (X.D.zs k).nm.toList) = v) := fun v h => by rw [ByteArray.toList_eq]; exact h
        have HRQ : Hid (∀ p' : Nat, q = p' + 1 → Op.bytesLess (L[p']?.getD []) (L[q]?.getD []) = true ∧ Op.bytesLess (L[q]?.getD []) (L[p']?.getD []) = false ∧ (L[q]?.getD [] == L[p']?.getD []) = false ∧ (L[p']?.getD [] == L[q]?.getD []) = false) := fun p' hp' => by
          subst hp'
          exact bless_four (HUp.out p' (by have := HNL.out; omega))
        have HCZ := hideH hcz
        clear hcz
        obtain ⟨y, hy⟩ : ∃ y, y = L[q]?.getD [] := ⟨_, rfl⟩
        rw [← hy] at e1 HNB HKEY HRQ HNq
        clear hy
        have hcase : (bb = true ∧ Hid (true = (L.take (q + 1)).any (· == (X.D.zs k).nm.data.toList))) ∨ (bb = false ∧ (y == (X.D.zs k).nm.toList) = true ∧ Hid (true = (L.take (q + 1)).any (· == (X.D.zs k).nm.data.toList))) ∨ (bb = false ∧ (y == (X.D.zs k).nm.toList) = false ∧ Hid (false = (L.take (q + 1)).any (· == (X.D.zs k).nm.data.toList))) := by
          cases bb
          · cases hyy : (y == (X.D.zs k).nm.data.toList)
            · exact .inr (.inr ⟨rfl, HKEY.out _ hyy, by show _ = _; rw [HNB.out, ← HBB.out, hyy]; rfl⟩)
            · exact .inr (.inl ⟨rfl, HKEY.out _ hyy, by show _ = _; rw [HNB.out, ← HBB.out, hyy]; rfl⟩)
          · exact .inl ⟨rfl, by show _ = _; rw [HNB.out, ← HBB.out]; rfl⟩
        clear HKEY HNB HBB
        rcases hcase with ⟨rfl, HB2⟩ | ⟨rfl, hcm, HB2⟩ | ⟨rfl, hcm, HB2⟩
        all_goals
          go_wp2_with fail
          go_quiet (fail)
          obtain ⟨W5, hW5⟩ : ∃ W5, W5 = wr.drewN nq := ⟨_, rfl⟩
          have hB5 : Below wr.heap.size wr W5 := by rw [hW5]; exact below_drewN (Below.refl _ _) _
          simp only [← hW5]
          clear hW5
          have BW5 := hideH (bthen HW.out hB5)
          have CZ5 : Hid (∀ j, j < N → W5.cell? ⟨bz, oz + j, none⟩ = some (.string ⟨(L[j]?.getD []).toArray⟩)) := fun j hj => cell_on (HCZ.out j hj) hB5
          have c0' := cell_on c0 hB5
          have c1' := cell_on c1 hB5
          have c2' := cell_on c2 hB5
          have c3' := cell_on c3 hB5
          have c4' := cell_on c4 hB5
          have e1' := cell_on e1 hB5
          clear c0 c1 c2 c3 c4 e1 d0 hB5
          go_wp2_with fail
          go_region_held3 (fun v => v.cell? ⟨w.heap.size, 0, none⟩ = some (.slice X.D.sa X.D.ns X.D.sc) ∧ v.cell? ⟨w.heap.size, 1, none⟩ = some (.slice (some ⟨b, off, none⟩) X.D.nz X.D.zc) ∧ v.cell? ⟨w.heap.size, 2, none⟩ = some (.slice X.D.la X.D.nl X.D.lc) ∧ v.cell? ⟨w.heap.size, 3, none⟩ = some (.slice X.ua X.un X.uc) ∧ v.cell? ⟨w.heap.size, 4, none⟩ = some (.slice X.ba X.bn X.bc) ∧ v.cell? ⟨bz, oz + q, none⟩ = some (.string ⟨y.toArray⟩))
            (first | (exact ⟨c0', c1', c2', c3', c4', e1'⟩) | (exact ⟨cell_on (w := W5.drew) c0' hw6, cell_on (w := W5.drew) c1' hw6, cell_on (w := W5.drew) c2' hw6, cell_on (w := W5.drew) c3' hw6, cell_on (w := W5.drew) c4' hw6, cell_on (w := W5.drew) e1' hw6⟩))
            ((go_at_call 10; refine (HNq.out _ (by exact (bthen H4.out BW5.out).drew)).mono ?_; rintro e w6 ⟨rfl, hw6⟩))
        all_goals
          have hB6 : Below W5.heap.size W5 w6 := bthen (a := W5.drew) (Below.refl _ W5).drew hw6
          have BW6 := hideH (bthen BW5.out hB6)
          have e2 := cell_on e1' hB6
          have CZ6 : Hid (∀ j, j < N → w6.cell? ⟨bz, oz + j, none⟩ = some (.string ⟨(L[j]?.getD []).toArray⟩)) := fun j hj => cell_on (CZ5.out j hj) hB6
          clear hw6 hB6 c0' c1' c2' c3' c4' e1' CZ5 BW5
          rcases hprev with hp' | ⟨p', hp'⟩
          · have hgt : ¬ ((0 : Int) < (q : Int)) := by omega
            have hgn : ¬ (0 < q) := by omega
            clear hp'
            go_wp2_with fail
            go_quiet (fail)
            go_wp2_with fail
            try simp only [← hsz]
            go_roundw
            case rel => exact ⟨q + 1, _, by omega, by go_num, rfl, HB2, below_drewN BW6.out _⟩
            case measure => simp [intOf]; omega
          · have hgt : (0 : Int) < (q : Int) := by omega
            have hgn : 0 < q := by omega
            have hpl : p' < N := by omega
            have e3 : w6.cell? ⟨bz, oz + p', none⟩ = some (.string ⟨(L[p']?.getD []).toArray⟩) := CZ6.out p' hpl
            obtain ⟨hr1, hr2, hr3, hr4⟩ := HRQ.out p' hp'
            have hwp : IntKind.i64.wrap ((q : Int) - 1) = (p' : Int) := by rw [wrap_nuB (by omega) (by omega)]; omega
            have hp0 : decide ((p' : Int) < 0) = false := by simp
            have hpd : decide (N ≤ p') = false := by simp; omega
            have hpi : (p' : Int) < (N : Int) := by omega
            generalize L[p']?.getD [] = x at e3 hr1 hr2 hr3 hr4
            clear hp'
            go_wp2_with fail
            go_quiet (fail)
            go_wp2_with fail
            try simp only [← hsz]
            go_roundw
            case rel => exact ⟨q + 1, _, by omega, by go_num, rfl, HB2, below_drewN BW6.out _⟩
            case measure => simp [intOf]; omega
      · obtain rfl : q = N := by omega
        have hqi : ¬ ((q : Int) < (q : Int)) := by omega
        have hbb : bb = true := by rw [HBB.out, HNL.out, List.take_length]; exact HAny.out
        subst hbb
        have H5 := hideH (bthen H4.out HW.out)
        go_wp2_with fail
        refine (HG.out _ H5.out).mono ?_
        rintro e w5 ⟨rfl, hw⟩
        go_wp2_with fail
        go_ret
        exact ⟨rfl, bthen H5.out hw⟩
  · have hne : (nmE X loc zn t p != 0) = true := by rw [bne_iff_ne]; exact h
    generalize nmE X loc zn t p = e1 at *
    generalize nmR X loc zn t p = r1 at *
    clear h hE
    go_enter Tryz.func8, Tryz.ntmps8
    go_wp2_with fail
    refine (HN.out _ HB.out).mono ?_
    rintro e w1 ⟨rfl, hw⟩
    have H1 := hideH (bthen HB.out hw)
    clear hw
    go_wp2_with fail
    refine (HG.out _ H1.out).mono ?_
    rintro e w5 ⟨rfl, hw⟩
    go_wp2_with fail
    go_ret
    exact ⟨rfl, bthen H1.out hw⟩
end Go.Proofs.YtmpiijipebngcaaGreatDoor

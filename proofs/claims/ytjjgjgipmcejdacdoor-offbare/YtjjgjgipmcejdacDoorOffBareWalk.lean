/- The walk of the statement OffBare: it returns true, and nothing that lay in memory has turned. -/
import Derived.Test.YtjjgjgipmcejdacDoorOffBareM
import Derived.Test.YtjjgjgipmcejdacDoorOffBegunW
import Derived.Deep.CutRange
import Derived.Deep.RegionHeld3
namespace Go.Proofs.YtjjgjgipmcejdacDoor
open Go Go.RowKit Go.Maps
set_option linter.unusedVariables false

theorem keep3 {v : World} {b q o : Nat} {x y z u : Value} (h : v.cell? ⟨q, o, none⟩ = some u) (hne : q ≠ b) : (((v.setCell ⟨b, 0, none⟩ x).setCell ⟨b, 1, none⟩ y).setCell ⟨b, 2, none⟩ z).cell? ⟨q, o, none⟩ = some u := by
  rw [cell_set_other (by exact hne), cell_set_other (by exact hne), cell_set_other (by exact hne)]; exact h
theorem wrap_nn {n : Int} (h0 : 0 ≤ n) (h1 : n < 9223372036854775808) : IntKind.i64.wrap n = n := by
  have h64 : IntKind.i64.bits = 64 := rfl
  have hsg : IntKind.i64.signed = true := rfl
  unfold IntKind.wrap
  rw [h64, hsg]
  simp only [Bool.true_and]
  rw [Int.emod_eq_of_lt h0 (by omega)]
  simp
  omega
theorem cho_in (c n : Int) (h : 0 < n) : 0 ≤ cho c n ∧ cho c n < n := by
  unfold cho
  split
  · exact ⟨Int.emod_nonneg _ (by omega), Int.emod_lt_of_pos _ h⟩
  · exact ⟨Int.emod_nonneg _ (by omega), Int.emod_lt_of_pos _ h⟩
theorem cho_nat (c : Int) (n : Nat) (h : 0 < n) : ∃ j : Nat, cho c n = j ∧ j < n := by
  have := cho_in c n (by omega)
  exact ⟨(cho c n).toNat, by omega, by omega⟩

set_option maxRecDepth 100000 in
set_option maxHeartbeats 4000000 in
theorem OffBare_w (D : Dt) (zi ei t : Int) (w : World) (hL : Laid w) (hM : Mx w) (hD : DAt w D) (hF : D.fits) (hz : -9223372036854775808 ≤ zi ∧ zi ≤ 9223372036854775807) (he : -9223372036854775808 ≤ ei ∧ ei ≤ 9223372036854775807) (ht : -9223372036854775808 ≤ t ∧ t ≤ 9223372036854775807) :
    Calls Tryd.prog 5 #[D.v, .int .i64 zi, .int .i64 ei, .int .i64 t] w fun e w' => e = .returned (.bool true) ∧ Below w.heap.size w w' := by
  have HL := hideH hL
  have HM := hideH hM
  have HD := hideH hD
  have HF := hideH hF
  have HE : Hid (∀ v : World, Below w.heap.size w v → Env v D) := fun v h => ⟨HL.out.on h, HM.out.on h, HD.out.on h⟩
  have HCh : Hid (∀ (c n : Int) (v : World), 0 < n → -9223372036854775808 ≤ c → c ≤ 9223372036854775807 → Calls Tryd.prog 11 #[.int .i64 c, .int .i64 n] v fun e w' => e = .returned (.int .i64 (cho c n)) ∧ w' = v) := fun c n v h1 h2 h3 => choose_any c n v h1 h2 h3
  clear hL hM hD hF
  have n2 := HF.out.nz
  unfold maxLen at n2
  have hb0 := hideH ((Below.refl _ w).alloc (Nat.le_refl _) (.cells (dC D) 26))
  have hc0 := hideH (World.alloc_heap_new w (.cells (dC D) 26))
  have hcc : (chkE D ≠ 0) ∨ (chkE D = 0 ∧ D.nz = 0) ∨ (chkE D = 0 ∧ 0 < D.nz) := by omega
  rcases hcc with hc | ⟨hc, hnz⟩ | ⟨hc, hnz⟩
  · have hne : (chkE D != 0) = true := by rw [bne_iff_ne]; exact hc
    go_enter Tryd.func5, Tryd.ntmps5
    go_wp2_with fail
    refine (DCheck_c D _ (HE.out _ hb0.out) HF.out).mono ?_
    rintro e w1 ⟨rfl, hw1⟩
    have H1 := hideH (bthen hb0.out hw1)
    clear hw1 hb0 hc0 hc
    go_wp2_with fail
    refine (offBegun_c _ (HL.out.on H1.out) (HM.out.on H1.out)).mono ?_
    rintro e w3 ⟨rfl, hw3⟩
    go_wp2_with fail
    go_ret
    exact ⟨rfl, bthen H1.out hw3⟩
  · have hck := hideH (DCheck_c D _ (HE.out _ hb0.out) HF.out)
    rw [hc] at hck
    have hnb : ((D.nz : Int) == 0) = true := by rw [hnz]; rfl
    clear hnz
    go_enter Tryd.func5, Tryd.ntmps5
    go_wp2_with fail
    refine hck.out.mono ?_
    rintro e w1 ⟨rfl, hw1⟩
    have H1 := hideH (bthen hb0.out hw1)
    obtain ⟨c0, c1, c2⟩ := cells3 (heap_on hc0.out hw1)
    clear hw1 hb0 hc0 hc hck
    go_wp2_with fail
    refine (offBegun_c _ (HL.out.on H1.out) (HM.out.on H1.out)).mono ?_
    rintro e w3 ⟨rfl, hw3⟩
    go_wp2_with fail
    go_ret
    exact ⟨rfl, bthen H1.out hw3⟩
  · obtain ⟨j, hj, hjz⟩ := cho_nat zi D.nz hnz
    have hn1 := ((chk_all hc).1.2.2 j hjz).1
    have hn4 := ((chk_all hc).1.2.2 j hjz).2
    obtain ⟨k, hk, hkn⟩ := cho_nat ei (D.zs j).n (by omega)
    have hzk := (chk_all hc).2.2.1 j hjz
    have hfr := (hzk.1 k hkn).2
    have hbd := ebd (hzk.1 k hkn).1
    have hnn := frm_nn (fun i hi => (hzk.1 i hi).2) k (by omega)
    have hue := un_le (fun i hi => (hzk.1 i hi).2) (D.zs j).n (Nat.le_refl _) k hkn
    rw [hzk.2] at hue
    have hck := hideH (DCheck_c D _ (HE.out _ hb0.out) HF.out)
    rw [hc] at hck
    have hnb : ((D.nz : Int) == 0) = false := beq_eq_false_iff_ne.2 (by omega)
    have HJ : Hid (∀ v, Calls Tryd.prog 11 #[.int .i64 zi, .int .i64 D.nz] v fun e w' => e = .returned (.int .i64 j) ∧ w' = v) := fun v => by have := HCh.out zi D.nz v (by omega) hz.1 hz.2; rwa [hj] at this
    have HK : Hid (∀ v, Calls Tryd.prog 11 #[.int .i64 ei, .int .i64 (D.zs j).n] v fun e w' => e = .returned (.int .i64 k) ∧ w' = v) := fun v => by have := HCh.out ei (D.zs j).n v (by omega) he.1 he.2; rwa [hk] at this
    have HAt : Hid (∀ (T : Int) (v : World), ((D.zs j).es k).set < 0 → frm (D.zs j).es k ≤ T → T < ((D.zs j).es k).un → Below w.heap.size w v → Calls Tryd.prog 9 #[D.v, .string (D.zs j).nm, .int .i64 T] v fun e w' => e = .returned (.tuple #[.agg #[.int .i64 (bareR ((D.zs j).es k)).tot, .int .i64 (bareR ((D.zs j).es k)).sv, .string (bareR ((D.zs j).es k)).ab], .int .i64 0]) ∧ Below v.heap.size v w') := fun T v h1 h2 h3 hv => by
      have := OAt_c D (D.zs j).nm T v (HE.out v hv) HF.out (HF.out.znm j hjz)
      obtain ⟨e1, e2⟩ := bare_at hc hjz hkn h1 h2 h3
      rw [e1, e2] at this
      exact this
    have HX : Hid (∀ v : World, Below w.heap.size w v → ∃ be offe, (D.zs j).a = some ⟨be, offe, none⟩ ∧ (k = 0 ∧ frm (D.zs j).es k = 0 ∨ ∃ k', k = k' + 1 ∧ v.cell? ⟨be, offe + k' * 5 + 4, none⟩ = some (.int .i64 (frm (D.zs j).es k))) ∧ EAt v be (offe + k * 5) ((D.zs j).es k)) := fun v hv => by
      rcases (HE.out v hv).dat.eras j hjz with h0 | ⟨be, offe, hea, hes⟩
      · omega
      · refine ⟨be, offe, hea, ?_, hes k hkn⟩
        cases k with
        | zero => exact .inl ⟨rfl, rfl⟩
        | succ k' => exact .inr ⟨k', rfl, (hes k' (by omega)).2.2.2.2⟩
    have HT : Hid (∀ (n : Int) (v : World), 0 < n → Calls Tryd.prog 11 #[.int .i64 t, .int .i64 n] v fun e w' => e = .returned (.int .i64 (cho t n)) ∧ w' = v) := fun n v h => HCh.out t n v h ht.1 ht.2
    clear hc hzk hj hk hz he HCh ht
    generalize frm (D.zs j).es k = F at *
    generalize (D.zs j).es k = X at *
    obtain ⟨x, st, y, fm, un⟩ := X
    obtain ⟨b1, b2, b3, b4, b5, b6⟩ := hbd
    simp only at b1 b2 b3 b4 b5 b6 hfr hue
    have HAt2 : Hid (∃ A, ∀ (T : Int) (v : World), st < 0 → F ≤ T → T < un → Below w.heap.size w v → Calls Tryd.prog 9 #[D.v, .string (D.zs j).nm, .int .i64 T] v fun e w' => e = .returned (.tuple #[.agg #[.int .i64 (x + y), .int .i64 y, .string A], .int .i64 0]) ∧ Below v.heap.size v w') := ⟨_, HAt.out⟩
    obtain ⟨A, hAt⟩ := HAt2.out
    have HA := hideH hAt
    clear hAt HAt HAt2
    have b7 : y ≤ 7200 := by omega
    clear b6
    go_enter Tryd.func5, Tryd.ntmps5
    go_wp2_with fail
    refine hck.out.mono ?_
    rintro e w1 ⟨rfl, hw1⟩
    have H1 := hideH (bthen hb0.out hw1)
    have C1 := hideH (heap_on hc0.out hw1)
    clear hw1 hb0 hc0 hck
    obtain ⟨c0, c1, c2⟩ := cells3 C1.out
    have hcl := cell_lt c0
    have hk0 : decide ((j : Int) < 0) = false := by simp
    have hkn' : decide (D.nz ≤ j) = false := by simp; omega
    have hji : (j : Int) < (D.nz : Int) := by omega
    go_upto_region 3 with fail
    clear c0 c1 c2
    go_cut [9] from 27 to 35 (fun x9 wx => x9 = .pointer (some ⟨w1.heap.size, 0, none⟩) ∧ Hid (Below w.heap.size w wx) ∧ Hid (wx.heap[w1.heap.size]? = some (.cells #[.string (D.zs j).nm, .slice (D.zs j).a (D.zs j).n (D.zs j).c] 41)) ∧ Hid (wx.heap[w.heap.size]? = some (.cells (dC D) 26)))
    case first =>
      obtain ⟨c0, c1, c2⟩ := cells3 C1.out
      rcases (HD.out.on H1.out).zones with h0 | ⟨b, off, hsa, hcs⟩
      · omega
      obtain ⟨d0, d1⟩ := hcs j hjz
      have hbl := cell_lt d0
      clear hcs
      go_region_with (first | (go_at_call 11; refine (HJ.out _).mono ?_; rintro e w2 ⟨rfl, rfl⟩))
      all_goals
        go_wp2_with fail
        simp only [← hsa]
        go_meet
        case rel =>
          have hb := (Below.refl _ w1).alloc (Nat.le_refl _) (.cells #[.string (D.zs j).nm, .slice (D.zs j).a (D.zs j).n (D.zs j).c] 41)
          exact ⟨rfl, (bthen H1.out hb).drew, World.alloc_heap_new w1 (.cells #[.string (D.zs j).nm, .slice (D.zs j).a (D.zs j).n (D.zs j).c] 41), heap_on C1.out hb.drew⟩
    case rest =>
      obtain ⟨rfl, HW, HZ, HC⟩ := hcut
      clear H1 C1 HJ hk0 hkn' hji
      obtain ⟨z0, z1⟩ := cells2 HZ.out
      have hnz' : (((D.zs j).n : Int) == 0) = false := beq_eq_false_iff_ne.2 (by omega)
      go_wp2_with fail
      refine (HK.out _).mono ?_
      rintro e wc ⟨rfl, rfl⟩
      go_upto_if 46 with fail
      go_cut [11] from 47 to 53 (fun x11 wx => x11 = .int .i64 F ∧ wx = wc)
      case first =>
        obtain ⟨be, offe, hea, hks, -⟩ := HX.out wc HW.out
        obtain ⟨z0, z1⟩ := cells2 HZ.out
        rcases hks with ⟨rfl, rfl⟩ | ⟨k', rfl, hu⟩
        · go_wp2_with fail
          try simp only [← hea]
          go_meet
          case rel => exact ⟨rfl, rfl⟩
        · have hk1 : decide (((k' + 1 : Nat) : Int) - 1 < 0) = false := by first | (simp; done) | (simp; omega)
          have hk2 : ((k' : Int) + 1 - 1) < ((D.zs j).n : Int) := by omega
          go_wp2_with fail
          try simp only [← hea]
          go_meet
          case rel => exact ⟨rfl, rfl⟩
      case rest =>
        obtain ⟨rfl, rfl⟩ := hcut
        obtain ⟨be, offe, hea, -, e0, e1, e2, e3, e4⟩ := HX.out wc HW.out
        obtain ⟨z0, z1⟩ := cells2 HZ.out
        have hk0 : decide ((k : Int) < 0) = false := by simp
        have hk2 : decide ((D.zs j).n ≤ k) = false := by simp; omega
        have hbl := cell_lt e0
        have hzl := cell_lt z0
        rcases beq_cases st (-1) with ⟨q1, q2⟩ | ⟨q1, q2⟩
        · subst q2
          clear q1 b3 b4
          go_upto_region 13 with fail
          obtain ⟨w5, hw5⟩ : ∃ w5, w5 = wc.alloc (.cells #[.int .i64 x, .int .i64 (-1), .int .i64 y, .string fm, .int .i64 un] 43) := ⟨_, rfl⟩
          have hb5 := hideH ((Below.refl _ wc).alloc (Nat.le_refl _) (.cells #[.int .i64 x, .int .i64 (-1), .int .i64 y, .string fm, .int .i64 un] 43))
          have X5 : Hid (w5.heap[wc.heap.size]? = some (.cells #[.int .i64 x, .int .i64 (-1), .int .i64 y, .string fm, .int .i64 un] 43)) := by show _ = _; rw [hw5]; exact World.alloc_heap_new _ _
          rw [← hw5] at hb5
          have H5 := hideH (bthen HW.out hb5.out)
          have Z5 := hideH (heap_on HZ.out hb5.out)
          have C5 := hideH (heap_on HC.out hb5.out)
          simp only [← hw5]
          clear hw5 hb5 e0 e1 e2 e3 e4 z0 z1 hbl hzl HW HZ HC hea
          go_cut [13, 14] from 75 to 89 (fun x13 x14 wx => ∃ B, x13 = .pointer (some ⟨B, 0, none⟩) ∧ x14 = .int .i64 0 ∧ Hid (Below w.heap.size w wx) ∧ Hid (wx.heap[B]? = some (.cells #[.int .i64 (x + y), .int .i64 y, .string A] 36)) ∧ Hid (wx.heap[w.heap.size]? = some (.cells (dC D) 26)) ∧ Hid (wx.heap[w1.heap.size]? = some (.cells #[.string (D.zs j).nm, .slice (D.zs j).a (D.zs j).n (D.zs j).c] 41)) ∧ Hid (wx.heap[wc.heap.size]? = some (.cells #[.int .i64 x, .int .i64 (-1), .int .i64 y, .string fm, .int .i64 un] 43)))
          case first =>
            obtain ⟨c0, c1, c2⟩ := cells3 C5.out
            obtain ⟨z0, z1⟩ := cells2 Z5.out
            obtain ⟨x0, x1, x2, x3, x4⟩ := cells5 X5.out
            have hpos : 0 < un - F := by omega
            have hR := cho_in t (un - F) hpos
            have HT2 : Hid (∃ R, 0 ≤ R ∧ R < un - F ∧ ∀ v, Calls Tryd.prog 11 #[.int .i64 t, .int .i64 (un - F)] v fun e w' => e = .returned (.int .i64 R) ∧ w' = v) := ⟨_, hR.1, hR.2, fun v => HT.out _ v hpos⟩
            obtain ⟨R, r1, r2, hch⟩ := HT2.out
            have HC2 := hideH hch
            have l1 := cell_lt c0
            have l2 := cell_lt z0
            have l3 := cell_lt x0
            have hw1 : IntKind.i64.wrap (un - F) = un - F := wrap_nn (by omega) (by omega)
            have hw2 : IntKind.i64.wrap (F + R) = F + R := wrap_nn (by omega) (by omega)
            clear hch HT2 hR hpos
            have hbz := (Below.refl _ w5).alloc (Nat.le_refl _) (.cells #[.int .i64 0, .int .i64 0, .string ⟨#[]⟩] 36)
            go_region_held3 (fun v => v.cell? ⟨w.heap.size, 0, none⟩ = some (.slice D.sa D.ns D.sc) ∧ v.cell? ⟨w.heap.size, 1, none⟩ = some (.slice D.za D.nz D.zc) ∧ v.cell? ⟨w.heap.size, 2, none⟩ = some (.slice D.la D.nl D.lc) ∧ v.cell? ⟨w1.heap.size, 0, none⟩ = some (.string (D.zs j).nm) ∧ v.cell? ⟨wc.heap.size, 4, none⟩ = some (.int .i64 un))
              (first
                | (exact ⟨c0, c1, c2, z0, x4⟩)
                | (exact ⟨cell_on c0 hbz.drew, cell_on c1 hbz.drew, cell_on c2 hbz.drew, cell_on z0 hbz.drew, cell_on x4 hbz.drew⟩)
                | (exact ⟨cell_on (w := w5.drew) c0 hw6, cell_on (w := w5.drew) c1 hw6, cell_on (w := w5.drew) c2 hw6, cell_on (w := w5.drew) z0 hw6, cell_on (w := w5.drew) x4 hw6⟩)
                | (exact ⟨cell_on (w := (w5.alloc (.cells #[.int .i64 0, .int .i64 0, .string ⟨#[]⟩] 36)).drew) (cell_on c0 hbz.drew) hw6, cell_on (w := (w5.alloc (.cells #[.int .i64 0, .int .i64 0, .string ⟨#[]⟩] 36)).drew) (cell_on c1 hbz.drew) hw6, cell_on (w := (w5.alloc (.cells #[.int .i64 0, .int .i64 0, .string ⟨#[]⟩] 36)).drew) (cell_on c2 hbz.drew) hw6, cell_on (w := (w5.alloc (.cells #[.int .i64 0, .int .i64 0, .string ⟨#[]⟩] 36)).drew) (cell_on z0 hbz.drew) hw6, cell_on (w := (w5.alloc (.cells #[.int .i64 0, .int .i64 0, .string ⟨#[]⟩] 36)).drew) (cell_on x4 hbz.drew) hw6⟩)
                | (exact ⟨cell_on (cell_on (w := w5.drew) c0 hw6) ((Below.refl _ _).alloc (Nat.le_refl _) _), cell_on (cell_on (w := w5.drew) c1 hw6) ((Below.refl _ _).alloc (Nat.le_refl _) _), cell_on (cell_on (w := w5.drew) c2 hw6) ((Below.refl _ _).alloc (Nat.le_refl _) _), cell_on (cell_on (w := w5.drew) z0 hw6) ((Below.refl _ _).alloc (Nat.le_refl _) _), cell_on (cell_on (w := w5.drew) x4 hw6) ((Below.refl _ _).alloc (Nat.le_refl _) _)⟩)
                | (exact ⟨keep3 (cell_on (w := (w5.alloc (.cells #[.int .i64 0, .int .i64 0, .string ⟨#[]⟩] 36)).drew) (cell_on c0 hbz.drew) hw6) (by omega), keep3 (cell_on (w := (w5.alloc (.cells #[.int .i64 0, .int .i64 0, .string ⟨#[]⟩] 36)).drew) (cell_on c1 hbz.drew) hw6) (by omega), keep3 (cell_on (w := (w5.alloc (.cells #[.int .i64 0, .int .i64 0, .string ⟨#[]⟩] 36)).drew) (cell_on c2 hbz.drew) hw6) (by omega), keep3 (cell_on (w := (w5.alloc (.cells #[.int .i64 0, .int .i64 0, .string ⟨#[]⟩] 36)).drew) (cell_on z0 hbz.drew) hw6) (by omega), keep3 (cell_on (w := (w5.alloc (.cells #[.int .i64 0, .int .i64 0, .string ⟨#[]⟩] 36)).drew) (cell_on x4 hbz.drew) hw6) (by omega)⟩)
                | go_keep)
              (first
              | (go_at_call 11; (try rw [hw1]); refine (HC2.out _).mono ?_; rintro e wz ⟨rfl, rfl⟩)
              | (go_at_call 9; (try rw [hw2]); (first | refine (HA.out (F + R) _ (by omega) (by omega) (by omega) (by exact H5.out.drew)).mono ?_ | refine (HA.out (F + R) _ (by omega) (by omega) (by omega) (by exact (H5.out.alloc H5.out.size _).drew)).mono ?_); rintro e w6 ⟨rfl, hw6⟩; try (have hz6 := heap_on (w := (w5.alloc (.cells #[.int .i64 0, .int .i64 0, .string ⟨#[]⟩] 36)).drew) (World.alloc_heap_new w5 (.cells #[.int .i64 0, .int .i64 0, .string ⟨#[]⟩] 36)) hw6; obtain ⟨s0, s1, s2⟩ := cells3 hz6; have y0 := frozen3 hz6 0; have y1 := frozen3 hz6 1; have y2 := frozen3 hz6 2)))
            all_goals
              go_wp2_with fail
              go_meet
              case rel =>
                first
                  | (obtain ⟨k1, k2, k3, k4⟩ := meetA (w := w) (v := w5.drew) H5.out.drew hw6 C5.out Z5.out (.cells #[.int .i64 (x + y), .int .i64 y, .string A] 36); obtain ⟨-, -, -, k5⟩ := meetA (w := w) (v := w5.drew) H5.out.drew hw6 C5.out X5.out (.cells #[.int .i64 (x + y), .int .i64 y, .string A] 36); exact ⟨_, rfl, rfl, k1, k2, k3, k4, k5⟩)
                  | (obtain ⟨k1, k2, k3, k4⟩ := meetB (w := w) H5.out hw6 C5.out Z5.out (.int .i64 (x + y)) (.int .i64 y) (.string A); obtain ⟨-, -, -, k5⟩ := meetB (w := w) H5.out hw6 C5.out X5.out (.int .i64 (x + y)) (.int .i64 y) (.string A); exact ⟨_, rfl, rfl, k1, k2, k3, k4, k5⟩)
          case rest =>
            obtain ⟨B, rfl, rfl, H7, P7, C7, Z7, X7⟩ := hcut
            obtain ⟨c0, c1, c2⟩ := cells3 C7.out
            obtain ⟨z0, z1⟩ := cells2 Z7.out
            obtain ⟨x0, x1, x2, x3, x4⟩ := cells5 X7.out
            clear H5 Z5 C5 X5
            go_wp2_with fail
            clear c0 c1 c2 z0 z1 x0 x1 x2 x3 x4
            refine (HA.out (un - 1) _ (by omega) (by omega) (by omega) H7.out).mono ?_
            rintro e w8 ⟨rfl, hw8⟩
            have H8 := hideH (bthen H7.out hw8)
            have P8 := hideH (heap_on P7.out hw8)
            have X8 := hideH (heap_on X7.out hw8)
            clear hw8 H7 P7 C7 Z7 X7
            go_wp2_with fail
            have hb9 := hideH ((Below.refl _ w8).alloc (Nat.le_refl _) (.cells #[.int .i64 (x + y), .int .i64 y, .string A] 36))
            have H9 := hideH (bthen H8.out hb9.out)
            have P9 := hideH (heap_on P8.out hb9.out)
            have X9 := hideH (heap_on X8.out hb9.out)
            have O9 := hideH (World.alloc_heap_new w8 (.cells #[.int .i64 (x + y), .int .i64 y, .string A] 36))
            refine (offBegun_c _ (HL.out.on H9.out) (HM.out.on H9.out)).mono ?_
            rintro e w10 ⟨rfl, hw10⟩
            have H10 := hideH (bthen H9.out hw10)
            obtain ⟨p0, p1, p2⟩ := cells3 (heap_on P9.out hw10)
            obtain ⟨o0, o1, o2⟩ := cells3 (heap_on O9.out hw10)
            obtain ⟨x0, x1, x2, x3, x4⟩ := cells5 (heap_on X9.out hw10)
            clear hw10 H8 P8 X8 hb9 H9 P9 X9 O9
            go_wp2_with fail
            go_ret
            exact ⟨rfl, H10.out⟩
        · have hne : (st != -1) = true := by rw [bne_iff_ne]; exact q2
          clear q1 q2
          go_wp2_with fail
          have hb5 := hideH ((Below.refl _ wc).alloc (Nat.le_refl _) (.cells #[.int .i64 x, .int .i64 st, .int .i64 y, .string fm, .int .i64 un] 43))
          have H5 := hideH (bthen HW.out hb5.out)
          refine (offBegun_c _ (HL.out.on H5.out) (HM.out.on H5.out)).mono ?_
          rintro e w6 ⟨rfl, hw6⟩
          have H6 := hideH (bthen H5.out hw6)
          obtain ⟨y0, y1, y2, y3, y4⟩ := cells5 (heap_on (World.alloc_heap_new wc (.cells #[.int .i64 x, .int .i64 st, .int .i64 y, .string fm, .int .i64 un] 43)) hw6)
          clear hw6 H5 hb5
          go_wp2_with fail
          go_ret
          exact ⟨rfl, H6.out⟩
end Go.Proofs.YtjjgjgipmcejdacDoor

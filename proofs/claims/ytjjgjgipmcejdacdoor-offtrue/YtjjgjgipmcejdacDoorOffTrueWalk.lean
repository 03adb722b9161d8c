/- The walk of the statement OffTrue: it returns true, and nothing that lay in memory has turned. -/
import Derived.Test.YtjjgjgipmcejdacDoorOffBegunW
import Derived.Deep.CutRange
namespace Go.Proofs.YtjjgjgipmcejdacDoor
open Go Go.RowKit Go.Maps
set_option linter.unusedVariables false

theorem rep_len (l new : List UInt8) : (Lib.replace l pct new 1).length ≤ l.length + new.length := by
  cases hn : (pct == new)
  · rw [rep1 l new hn]
    split
    · omega
    · rw [List.length_append, List.length_append, List.length_take, List.length_drop]; omega
  · unfold Lib.replace
    rw [hn]
    simp
/-- what off.At answers, where it answers -/
theorem ats_ok {D : Dt} {s : ByteArray} {t : Int} (h : atsE D s t = 0) : ∃ k : Nat, zonE D s = 0 ∧ zonR D s = k ∧ k < D.nz ∧ chkE D = 0 ∧ 0 ≤ t ∧ t < 1893456000 ∧ atsR D s t = offR D k t := by
  unfold atsE at h
  split at h
  · rename_i h0
    obtain ⟨hc, k, hk, hkz⟩ := zon_ok h0
    split at h
    · rename_i ht
      refine ⟨k, h0, hk, hkz, hc, ht.1, ht.2, ?_⟩
      unfold atsR
      rw [if_pos h0, if_pos ht, hk]; rfl
    · cases h
  · rename_i h0
    exact absurd h h0
theorem ats_zone {D : Dt} {k : Nat} {t : Int} (hc : chkE D = 0) (hk : k < D.nz) (t0 : 0 ≤ t) (t1 : t < 1893456000) : atsE D (D.zs k).nm t = 0 ∧ atsR D (D.zs k).nm t = offR D k t := by
  obtain ⟨z1, z2⟩ := zone_told hc hk
  unfold atsE atsR
  rw [if_pos z2, if_pos z2, if_pos ⟨t0, t1⟩, if_pos ⟨t0, t1⟩, z1]
  exact ⟨rfl, rfl⟩
theorem offS_in {D : Dt} (hc : chkE D = 0) {k : Nat} (hk : k < D.nz) (t : Int) : 0 ≤ offS D k t ∧ offS D k t ≤ 7200 := by
  have hlt := eraI_lt (es := (D.zs k).es) t ((chk_all hc).1.2.2 k hk).1
  have hb := ebd (chk_era hc hk hlt)
  change -50400 ≤ (offX D k t).std ∧ (offX D k t).std ≤ 50400 ∧ -1 ≤ (offX D k t).set ∧ (offX D k t).set < D.ns ∧ 0 ≤ (offX D k t).sv ∧ (0 ≤ (offX D k t).set ∧ (offX D k t).sv ≤ 0 ∨ (offX D k t).set < 0 ∧ (offX D k t).sv ≤ 7200) at hb
  unfold offS
  split
  · exact rulS_in hc (by omega) _ _
  · omega
theorem offA_in {D : Dt} (hc : chkE D = 0) {k : Nat} (hk : k < D.nz) (t : Int) : (offA D k t).size ≤ 24 := by
  have hlt := eraI_lt (es := (D.zs k).es) t ((chk_all hc).1.2.2 k hk).1
  have hb := ebd (chk_era hc hk hlt)
  change -50400 ≤ (offX D k t).std ∧ (offX D k t).std ≤ 50400 ∧ -1 ≤ (offX D k t).set ∧ (offX D k t).set < D.ns ∧ 0 ≤ (offX D k t).sv ∧ (0 ≤ (offX D k t).set ∧ (offX D k t).sv ≤ 0 ∨ (offX D k t).set < 0 ∧ (offX D k t).sv ≤ 7200) at hb
  have hf : (offX D k t).fm.size ≤ 12 := chk_fmt hc hk hlt
  have hl : (offL D k t).size ≤ 12 := by
    unfold offL
    split
    · exact rulL_in hc (by omega) _ _
    · exact Nat.zero_le _
  have h := rep_len (offX D k t).fm.data.toList (offL D k t).data.toList
  have e1 : (offX D k t).fm.data.toList.length = (offX D k t).fm.size := by simp
  have e2 : (offL D k t).data.toList.length = (offL D k t).size := by simp
  have e3 : (offA D k t).size = (Lib.replace (offX D k t).fm.data.toList pct (offL D k t).data.toList 1).length := by unfold offA; simp [ByteArray.size]
  omega

/-- a box that was made behind a call -/
theorem meetA {w v w4 : World} {b1 b2 : Nat} {o1 o2 : Obj} (h : Below w.heap.size w v) (hw : Below v.heap.size v w4) (c1 : v.heap[b1]? = some o1) (c2 : v.heap[b2]? = some o2) (o : Obj) :
    Below w.heap.size w (w4.alloc o) ∧ (w4.alloc o).heap[w4.heap.size]? = some o ∧ (w4.alloc o).heap[b1]? = some o1 ∧ (w4.alloc o).heap[b2]? = some o2 := by
  have hb := (Below.refl _ w4).alloc (Nat.le_refl _) o
  exact ⟨bthen (bthen h hw) hb, World.alloc_heap_new _ _, heap_on (heap_on c1 hw) hb, heap_on (heap_on c2 hw) hb⟩
/-- a box of three cells that was made ahead of a call, and stored into behind it -/
theorem meetB {w w3 w4 : World} {b1 b2 : Nat} {o1 o2 : Obj} {z0 z1 z2 : Value} {ty : TypeId} (h : Below w.heap.size w w3) (hw : Below (w3.alloc (.cells #[z0, z1, z2] ty)).heap.size (w3.alloc (.cells #[z0, z1, z2] ty)).drew w4) (c1 : w3.heap[b1]? = some o1) (c2 : w3.heap[b2]? = some o2) (x y z : Value) :
    Below w.heap.size w (((w4.setCell ⟨w3.heap.size, 0, none⟩ x).setCell ⟨w3.heap.size, 1, none⟩ y).setCell ⟨w3.heap.size, 2, none⟩ z) ∧ (((w4.setCell ⟨w3.heap.size, 0, none⟩ x).setCell ⟨w3.heap.size, 1, none⟩ y).setCell ⟨w3.heap.size, 2, none⟩ z).heap[w3.heap.size]? = some (.cells #[x, y, z] ty) ∧
      (((w4.setCell ⟨w3.heap.size, 0, none⟩ x).setCell ⟨w3.heap.size, 1, none⟩ y).setCell ⟨w3.heap.size, 2, none⟩ z).heap[b1]? = some o1 ∧ (((w4.setCell ⟨w3.heap.size, 0, none⟩ x).setCell ⟨w3.heap.size, 1, none⟩ y).setCell ⟨w3.heap.size, 2, none⟩ z).heap[b2]? = some o2 := by
  have hb := (Below.refl _ w3).alloc (Nat.le_refl _) (.cells #[z0, z1, z2] ty)
  have hz := h.size
  have l1 := (Array.getElem?_eq_some_iff.1 c1).1
  have l2 := (Array.getElem?_eq_some_iff.1 c2).1
  have h4 : Below w.heap.size w w4 := bthen (w := w) (a := (w3.alloc (.cells #[z0, z1, z2] ty)).drew) (bthen h hb).drew hw
  have n := heap_on (w := (w3.alloc (.cells #[z0, z1, z2] ty)).drew) (World.alloc_heap_new w3 (.cells #[z0, z1, z2] ty)) hw
  have d1 := heap_on (w := (w3.alloc (.cells #[z0, z1, z2] ty)).drew) (heap_on c1 hb.drew) hw
  have d2 := heap_on (w := (w3.alloc (.cells #[z0, z1, z2] ty)).drew) (heap_on c2 hb.drew) hw
  refine ⟨((h4.setCell (p := ⟨w3.heap.size, 0, none⟩) hz _).setCell (p := ⟨w3.heap.size, 1, none⟩) hz _).setCell (p := ⟨w3.heap.size, 2, none⟩) hz _, setCell_at (setCell_at (setCell_at n _) _) _, ?_, ?_⟩
  · rw [Below.heap_setCell _ _ _ _ (show b1 ≠ w3.heap.size by omega), Below.heap_setCell _ _ _ _ (show b1 ≠ w3.heap.size by omega), Below.heap_setCell _ _ _ _ (show b1 ≠ w3.heap.size by omega)]; exact d1
  · rw [Below.heap_setCell _ _ _ _ (show b2 ≠ w3.heap.size by omega), Below.heap_setCell _ _ _ _ (show b2 ≠ w3.heap.size by omega), Below.heap_setCell _ _ _ _ (show b2 ≠ w3.heap.size by omega)]; exact d2

set_option maxRecDepth 100000 in
set_option maxHeartbeats 4000000 in
theorem OffTrue_w (D : Dt) (s : ByteArray) (t : Int) (w : World) (hL : Laid w) (hM : Mx w) (hD : DAt w D) (hF : D.fits) (hs : s.size ≤ maxLen) (hi : -9223372036854775808 ≤ t ∧ t ≤ 9223372036854775807) :
    Calls Tryd.prog 4 #[D.v, .string s, .int .i64 t] w fun e w' => e = .returned (.bool true) ∧ Below w.heap.size w w' := by
  have HL := hideH hL
  have HM := hideH hM
  have HD := hideH hD
  have HF := hideH hF
  have HS := hideH hs
  have HE : Hid (∀ v : World, Below w.heap.size w v → Env v D) := fun v h => ⟨HL.out.on h, HM.out.on h, HD.out.on h⟩
  clear hL hM hD hF hs hi
  have hb0 := hideH ((Below.refl _ w).alloc (Nat.le_refl _) (.cells (dC D) 26))
  have hc0 := hideH (World.alloc_heap_new w (.cells (dC D) 26))
  by_cases h0 : atsE D s t = 0
  · obtain ⟨k, g1, g2, hkz, hc, t0, t1, g3⟩ := ats_ok h0
    have HA1 : Hid (∀ v, Below w.heap.size w v → Calls Tryd.prog 9 #[D.v, .string s, .int .i64 t] v fun e w' => e = .returned (.tuple #[.agg #[.int .i64 ((offX D k t).std + offS D k t), .int .i64 (offS D k t), .string (offA D k t)], .int .i64 0]) ∧ Below v.heap.size v w') := fun v hv => by
      have := OAt_c D s t v (HE.out v hv) HF.out HS.out
      rwa [g3, h0] at this
    have HZ : Hid (∀ v, Below w.heap.size w v → Calls Tryd.prog 8 #[D.v, .string s] v fun e w' => e = .returned (.tuple #[.int .i64 k, .int .i64 0]) ∧ Below v.heap.size v w') := fun v hv => by
      have := DZone_c D s v (HE.out v hv) HF.out HS.out
      rwa [g2, g1] at this
    have hA2 : ∀ v, Below w.heap.size w v → Calls Tryd.prog 9 #[D.v, .string (D.zs k).nm, .int .i64 t] v fun e w' => e = .returned (.tuple #[.agg #[.int .i64 ((offX D k t).std + offS D k t), .int .i64 (offS D k t), .string (offA D k t)], .int .i64 0]) ∧ Below v.heap.size v w' := fun v hv => by
      have := OAt_c D (D.zs k).nm t v (HE.out v hv) HF.out (HF.out.znm k hkz)
      rwa [(ats_zone hc hkz t0 t1).2, (ats_zone hc hkz t0 t1).1] at this
    obtain ⟨s1, s2⟩ := offS_in hc hkz t
    have a1 := offA_in hc hkz t
    have hlt := eraI_lt (es := (D.zs k).es) t ((chk_all hc).1.2.2 k hkz).1
    have hb := ebd (chk_era hc hkz hlt)
    have b1 : -50400 ≤ (offX D k t).std := hb.1
    have b2 : (offX D k t).std ≤ 50400 := hb.2.1
    have hn4 := ((chk_all hc).1.2.2 k hkz).2
    have HI : Hid (((D.zs k).es (eraI (D.zs k).es (D.zs k).n t)).std = (offX D k t).std) := rfl
    clear hb h0 g1 g2 g3 hc
    generalize eraI (D.zs k).es (D.zs k).n t = i0 at *
    generalize (offX D k t).std = x at *
    generalize offS D k t = S at *
    generalize offA D k t = A at *
    go_enter Tryd.func4, Tryd.ntmps4
    go_wp2_with fail
    refine (HA1.out _ hb0.out).mono ?_
    rintro e w1 ⟨rfl, hw1⟩
    have H1 := hideH (bthen hb0.out hw1)
    have C1 := hideH (heap_on hc0.out hw1)
    clear hw1 hb0 hc0 HA1
    obtain ⟨c0, c1, c2⟩ := cells3 C1.out
    have hcl := cell_lt c0
    go_wp2_with fail
    clear c0 c1 c2
    obtain ⟨w2, hw2⟩ : ∃ w2, w2 = w1.alloc (.cells #[.int .i64 (x + S), .int .i64 S, .string A] 36) := ⟨_, rfl⟩
    have hb2 := hideH ((Below.refl _ w1).alloc (Nat.le_refl _) (.cells #[.int .i64 (x + S), .int .i64 S, .string A] 36))
    have O2 : Hid (w2.heap[w1.heap.size]? = some (.cells #[.int .i64 (x + S), .int .i64 S, .string A] 36)) := by show _ = _; rw [hw2]; exact World.alloc_heap_new _ _
    rw [← hw2] at hb2
    have H2 := hideH (bthen H1.out hb2.out)
    have C2 := hideH (heap_on C1.out hb2.out)
    simp only [← hw2]
    clear hw2 hb2 H1 C1
    refine (HZ.out _ H2.out).mono ?_
    rintro e w3 ⟨rfl, hw3⟩
    have H3 := hideH (bthen H2.out hw3)
    have C3 := hideH (heap_on C2.out hw3)
    have O3 := hideH (heap_on O2.out hw3)
    clear hw3 H2 C2 O2 HZ
    obtain ⟨c0, c1, c2⟩ := cells3 C3.out
    have hk0 : decide ((k : Int) < 0) = false := by simp
    have hkn : decide (D.nz ≤ k) = false := by simp; omega
    have hki : (k : Int) < (D.nz : Int) := by omega
    go_upto_region 7 with fail
    clear c0 c1 c2
    go_cut [11, 12] from 45 to 56 (fun x11 x12 wx => ∃ B, x11 = .pointer (some ⟨B, 0, none⟩) ∧ x12 = .int .i64 0 ∧ Hid (Below w.heap.size w wx) ∧ Hid (wx.heap[B]? = some (.cells #[.int .i64 (x + S), .int .i64 S, .string A] 36)) ∧ Hid (wx.heap[w.heap.size]? = some (.cells (dC D) 26)) ∧ Hid (wx.heap[w1.heap.size]? = some (.cells #[.int .i64 (x + S), .int .i64 S, .string A] 36)))
    case first =>
      obtain ⟨c0, c1, c2⟩ := cells3 C3.out
      rcases (HD.out.on H3.out).zones with h0 | ⟨b, off, hsa, hcs⟩
      · omega
      obtain ⟨d0, d1⟩ := hcs k hkz
      have hbl := cell_lt d0
      have hcl3 := cell_lt c0
      simp only [Dt.v, hsa] at hA2
      have HA2 := hideH hA2
      clear hcs hA2 d1
      go_region_with (first | (go_at_call 9; (first | refine (HA2.out _ (by exact H3.out.drew)).mono ?_ | refine (HA2.out _ (by exact (H3.out.alloc H3.out.size _).drew)).mono ?_); rintro e w4 ⟨rfl, hw4⟩; try (have hz4 := heap_on (w := (w3.alloc (.cells #[.int .i64 0, .int .i64 0, .string ⟨#[]⟩] 36)).drew) (World.alloc_heap_new w3 (.cells #[.int .i64 0, .int .i64 0, .string ⟨#[]⟩] 36)) hw4; obtain ⟨z0, z1, z2⟩ := cells3 hz4; have y0 := frozen3 hz4 0; have y1 := frozen3 hz4 1; have y2 := frozen3 hz4 2)))
      all_goals
        go_wp2_with fail
        simp only [← hsa]
        go_meet
        case rel =>
          first
            | (obtain ⟨k1, k2, k3, k4⟩ := meetA (w := w) (v := w3.drew) H3.out.drew hw4 C3.out O3.out (.cells #[.int .i64 (x + S), .int .i64 S, .string A] 36); exact ⟨_, rfl, rfl, k1, k2, k3, k4⟩)
            | (obtain ⟨k1, k2, k3, k4⟩ := meetB (w := w) H3.out hw4 C3.out O3.out (.int .i64 (x + S)) (.int .i64 S) (.string A); exact ⟨_, rfl, rfl, k1, k2, k3, k4⟩)
    case rest =>
      obtain ⟨B, rfl, rfl, HW, HP, HC, HO⟩ := hcut
      clear H3 C3 O3 hA2
      obtain ⟨c0, c1, c2⟩ := cells3 HC.out
      obtain ⟨p0, p1, p2⟩ := cells3 HP.out
      obtain ⟨o0, o1, o2⟩ := cells3 HO.out
      go_wp2_with fail
      clear c0 c1 c2 p0 p1 p2 o0 o1 o2
      go_loop [14, 15] (fun x14 x15 => ∃ (i : Nat) (isb : Bool), i ≤ (D.zs k).n ∧ x15 = .int .i64 i ∧ x14 = .bool isb ∧ Hid (i0 < i → isb = true)) (fun _ x15 => (D.zs k).n - (intOf x15).toNat)
      case atStart => exact ⟨0, false, Nat.zero_le _, rfl, rfl, fun h => by omega⟩
      case round =>
        obtain ⟨i, isb, hin, rfl, rfl, HB⟩ := hrel
        obtain ⟨c0, c1, c2⟩ := cells3 HC.out
        rcases (HD.out.on HW.out).zones with h0 | ⟨b, off, hsa, hcs⟩
        · omega
        obtain ⟨d0, d1⟩ := hcs k hkz
        clear hcs d0
        by_cases hil : i < (D.zs k).n
        · rename ∀ (a : Act) (w : World), _ → _ => hcont
          clear hcont
          rcases (HD.out.on HW.out).eras k hkz with h0 | ⟨be, offe, hea, hes⟩
          · omega
          obtain ⟨e0, -, -, -, -⟩ := hes i hil
          have d2 : wc.cell? ⟨b, off + k * 2 + 1, none⟩ = some (.slice (some ⟨be, offe, none⟩) (D.zs k).n (D.zs k).c) := by rw [← hea]; exact d1
          clear d1
          have hi0 : decide ((i : Int) < 0) = false := by simp
          have hi1 : decide ((D.zs k).n ≤ i) = false := by simp; omega
          clear hes
          cases isb
          · rcases beq_cases ((D.zs k).es i).std x with ⟨q1, q2⟩ | ⟨q1, q2⟩
            · clear q2
              go_wp2_with fail
              exact ⟨⟨i + 1, true, by omega, by first | omega | go_num, by first | rfl | simp, fun _ => rfl⟩, by simp [intOf]; omega⟩
            · have hq : i0 ≠ i := fun h => q2 (by rw [← h]; exact HI.out)
              clear q2
              go_wp2_with fail
              exact ⟨⟨i + 1, false, by omega, by first | omega | go_num, by first | rfl | simp, fun h => HB.out (by omega)⟩, by simp [intOf]; omega⟩
          · go_wp2_with fail
            exact ⟨⟨i + 1, true, by omega, by first | omega | go_num, by first | rfl | simp, fun _ => rfl⟩, by simp [intOf]; omega⟩
        · have hisb : isb = true := HB.out (by omega)
          subst hisb
          go_wp2_with fail
          clear c0 c1 c2 d1
          refine (offBegun_c _ (HL.out.on HW.out) (HM.out.on HW.out)).mono ?_
          rintro e w5 ⟨rfl, hw5⟩
          have H5 := hideH (bthen HW.out hw5)
          obtain ⟨p0, p1, p2⟩ := cells3 (heap_on HP.out hw5)
          obtain ⟨o0, o1, o2⟩ := cells3 (heap_on HO.out hw5)
          clear hw5
          have s3 : (S : Int) ≤ 7200 := s2
          have a2 : (A.size : Int) ≤ 24 := by omega
          go_wp2_with fail
          go_ret
          exact ⟨rfl, H5.out⟩
  · have hne : (atsE D s t != 0) = true := by rw [bne_iff_ne]; exact h0
    go_enter Tryd.func4, Tryd.ntmps4
    go_wp2_with fail
    refine (OAt_c D s t _ (HE.out _ hb0.out) HF.out HS.out).mono ?_
    rintro e w1 ⟨rfl, hw1⟩
    have H1 := hideH (bthen hb0.out hw1)
    clear hw1 hb0 hc0
    go_wp2_with fail
    have hb2 := hideH ((Below.refl _ w1).alloc (Nat.le_refl _) (.cells #[.int .i64 (atsR D s t).tot, .int .i64 (atsR D s t).sv, .string (atsR D s t).ab] 36))
    have H2 := hideH (bthen H1.out hb2.out)
    refine (offBegun_c _ (HL.out.on H2.out) (HM.out.on H2.out)).mono ?_
    rintro e w3 ⟨rfl, hw3⟩
    go_wp2_with fail
    go_ret
    exact ⟨rfl, bthen H2.out hw3⟩
end Go.Proofs.YtjjgjgipmcejdacDoor

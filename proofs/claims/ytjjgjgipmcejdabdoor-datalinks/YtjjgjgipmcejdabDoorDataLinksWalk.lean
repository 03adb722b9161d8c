/- The walk of the statement DataLinks: it returns true, and nothing that lay in memory has turned. -/
import Derived.Test.YtjjgjgipmcejdabDoorDataBegunW
import Derived.Test.YtjjgjgipmcejdabDoorLinksM
import Derived.Deep.RegionHeld3
namespace Go.Proofs.YtjjgjgipmcejdabDoor
open Go Go.RowKit Go.Maps
set_option linter.unusedVariables false

theorem cells2 {w : World} {b : Nat} {x y : Value} {t : TypeId} (h : w.heap[b]? = some (.cells #[x, y] t)) : w.cell? ⟨b, 0, none⟩ = some x ∧ w.cell? ⟨b, 1, none⟩ = some y := by constructor <;> simp [World.cell?, h]
set_option maxRecDepth 100000 in
set_option maxHeartbeats 8000000 in
theorem DataLinks_w (D : Dt) (i : Int) (w : World) (hL : Laid w) (hM : Mx w) (hD : DAt w D) (hF : D.fits) (hi : -9223372036854775808 ≤ i ∧ i ≤ 9223372036854775807) :
    Calls Tryd.prog 8 #[D.v, .int .i64 i] w fun e w' => e = .returned (.bool true) ∧ Below w.heap.size w w' := by
  have HL := hideH hL
  have HM := hideH hM
  have HD := hideH hD
  have HF := hideH hF
  clear hL hM hD hF
  have hb0 := hideH ((Below.refl _ w).alloc (Nat.le_refl _) (.cells #[.slice D.sa D.ns D.sc, .slice D.za D.nz D.zc, .slice D.la D.nl D.lc] 43))
  have hc0 := hideH (World.alloc_heap_new w (.cells #[.slice D.sa D.ns D.sc, .slice D.za D.nz D.zc, .slice D.la D.nl D.lc] 43))
  have HE : ∀ v : World, Below w.heap.size w v → Env v D := fun v h => ⟨HL.out.on h, HM.out.on h, HD.out.on h⟩
  have HEE := hideH HE
  clear HE
  go_enter Tryd.func8, Tryd.ntmps8
  go_wp2_with fail
  refine (DCheck_c D _ (HEE.out _ hb0.out) HF.out).mono ?_
  rintro e w1 ⟨rfl, hw1⟩
  have H1 := hideH (bthen hb0.out hw1)
  have C1 := hideH (heap_on hc0.out hw1)
  clear hw1 hb0 hc0
  rcases beq_cases (chkE D) 0 with ⟨q1, q2⟩ | ⟨q1, q2⟩
  · rw [q2]
    have Q := hideH q2
    obtain ⟨n1, n2, n3⟩ := (chk_parts q2).1
    clear q1 q2
    obtain ⟨c0, c1, c2⟩ := cells3 C1.out
    go_wp2_with fail
    clear c0 c1 c2
    go_loopw [5] (fun x5 v => ∃ k : Nat, k ≤ D.nz ∧ x5 = .int .i64 k ∧ Hid (Below w.heap.size w v) ∧ Hid (v.heap[w.heap.size]? = some (.cells #[.slice D.sa D.ns D.sc, .slice D.za D.nz D.zc, .slice D.la D.nl D.lc] 43))) (fun x5 _ => D.nz - (intOf x5).toNat)
    case atStart => exact ⟨0, Nat.zero_le _, rfl, H1, C1⟩
    case round =>
      obtain ⟨k, hk, rfl, HW, HC⟩ := hrel
      obtain ⟨c0, c1, c2⟩ := cells3 HC.out
      by_cases hlt : k < D.nz
      · rename ∀ (a : Act) (w : World), _ → _ => hcont
        clear hcont
        obtain ⟨z1, z2⟩ := zone_told Q.out hlt
        rcases (HD.out.on HW.out).zones with h0 | ⟨b, off, hsa, hcs⟩
        · omega
        obtain ⟨d0, d1⟩ := hcs k hlt
        clear hcs
        have HSN : Hid (some ({ block := b, off := off } : Addr) = D.za) := hsa.symm
        go_wp2_with fail
        have hk0 : decide ((k : Int) < 0) = false := by simp
        have hkn : decide (D.nz ≤ k) = false := by simp; omega
        have hZ : ∀ v, Below w.heap.size w v → Calls Tryd.prog 17 #[D.v, .string (D.zs k).nm] v fun e w' => e = .returned (.tuple #[.int .i64 k, .int .i64 0]) ∧ Below v.heap.size v w' := fun v hv => by
          have := DZone_c D (D.zs k).nm v (HEE.out v hv) HF.out (HF.out.znm k hlt)
          rwa [z1, z2] at this
        simp only [Dt.v, hsa] at hZ
        have HZ := hideH hZ
        have HC2 := hideH (cells3 HC.out)
        clear hZ z1 z2
        have HD0 := hideH d0
        rw [hsa] at HC2
        go_region_with (first | (go_at_call 17; refine (HZ.out _ HW.out.drew).mono ?_; rintro e w2 ⟨rfl, hw2⟩))
        all_goals
          have H2 := hideH (bthen (w := w) HW.out.drew hw2)
          have C2 := hideH (heap_on (w := wr.drew) HC.out hw2)
          clear hw2 c0 c1 c2 d0 d1 HC2 HZ HC HW
          go_wp2_with fail
          simp only [← hsa]
          go_roundw
          case rel => exact ⟨k + 1, by omega, by go_num, H2, C2⟩
          case measure => simp [intOf]; omega
      · have hl := beq_cases (D.nl : Int) 0
        rcases hl with ⟨l1, l2⟩ | ⟨l1, l2⟩
        · go_wp2_with fail
          refine (dataBegun_c _ (HL.out.on HW.out) (HM.out.on HW.out)).mono ?_
          rintro e w2 ⟨rfl, hw2⟩
          go_wp2_with fail
          go_ret
          exact ⟨rfl, bthen HW.out hw2⟩
        · obtain ⟨j, hj, hjl⟩ : ∃ j : Nat, cho i D.nl = j ∧ j < D.nl := by
            have hp : (0 : Int) < D.nl := by omega
            have h1 : 0 ≤ cho i D.nl ∧ cho i D.nl < D.nl := by
              unfold cho
              split
              · exact ⟨Int.emod_nonneg _ (by omega), Int.emod_lt_of_pos _ hp⟩
              · exact ⟨Int.emod_nonneg _ (by omega), Int.emod_lt_of_pos _ hp⟩
            exact ⟨(cho i D.nl).toNat, by omega, by omega⟩
          have hch : ∀ v, Calls Tryd.prog 16 #[.int .i64 i, .int .i64 D.nl] v fun e w' => e = .returned (.int .i64 j) ∧ w' = v := fun v => by
            have := choose_law i D.nl v (by omega) (by omega) hi.1 hi.2
            rwa [hj] at this
          have HCH := hideH hch
          obtain ⟨e1, e2, e3, e4, e5⟩ := link_told Q.out hjl
          obtain ⟨R, hR⟩ : ∃ R, R = zonR D (D.ls j).nm := ⟨_, rfl⟩
          rw [← hR] at e3 e4 e5
          rcases (HD.out.on HW.out).links with h0 | ⟨b, off, hsa, hcs⟩
          · omega
          obtain ⟨d0, d1⟩ := hcs j hjl
          have hZ : ∀ v, Below w.heap.size w v → Calls Tryd.prog 17 #[D.v, .string (D.ls j).nm] v fun e w' => e = .returned (.tuple #[.int .i64 R, .int .i64 0]) ∧ Below v.heap.size v w' := fun v hv => by
            have := DZone_c D (D.ls j).nm v (HEE.out v hv) HF.out (HF.out.lnm j hjl)
            rwa [← hR, e1] at this
          have hZ2 : ∀ v, Below w.heap.size w v → Calls Tryd.prog 17 #[D.v, .string (D.ls j).to] v fun e w' => e = .returned (.tuple #[.int .i64 R, .int .i64 0]) ∧ Below v.heap.size v w' := fun v hv => by
            have := DZone_c D (D.ls j).to v (HEE.out v hv) HF.out (HF.out.lto j hjl)
            rwa [e3, e2] at this
          simp only [Dt.v, hsa] at hZ hZ2
          have HZ := hideH hZ
          have HZ2 := hideH hZ2
          have HSN : Hid (some ({ block := b, off := off } : Addr) = D.la) := hsa.symm
          have hk0 : decide ((j : Int) < 0) = false := by simp
          have hkn : decide (D.nl ≤ j) = false := by simp; omega
          have hbl := cell_lt d0
          have hcl := cell_lt c2
          clear hcs hZ hZ2 e1 e2 e3 hR hch hj
          go_wp2_with fail
          go_region_with (first | (go_at_call 16; refine (HCH.out _).mono ?_; rintro e w2 ⟨rfl, rfl⟩))
          all_goals
            clear d0 d1 c0 c1 c2 HCH hk0 hkn HSN H1 C1 Q
            have hbx := hideH ((Below.refl _ wr).alloc (Nat.le_refl _) (.cells #[.string (D.ls j).nm, .string (D.ls j).to] 52))
            obtain ⟨w2, hw2⟩ : ∃ w2, w2 = (wr.alloc (.cells #[.string (D.ls j).nm, .string (D.ls j).to] 52)).drew := ⟨_, rfl⟩
            simp only [← hw2]
            have H2 : Hid (Below w.heap.size w w2) := by show Below _ _ _; rw [hw2]; exact (bthen HW.out hbx.out).drew
            have C2 : Hid (w2.heap[w.heap.size]? = some (.cells #[.slice D.sa D.ns D.sc, .slice D.za D.nz D.zc, .slice D.la D.nl D.lc] 43)) := by show _ = _; rw [hw2]; exact heap_on HC.out hbx.out.drew
            have X2 : Hid (w2.heap[wr.heap.size]? = some (.cells #[.string (D.ls j).nm, .string (D.ls j).to] 52)) := by show _ = _; rw [hw2]; exact World.alloc_heap_new _ _
            clear hw2 hbx HW HC hbl hcl
            obtain ⟨c0, c1, c2⟩ := cells3 C2.out
            obtain ⟨x0, x1⟩ := cells2 X2.out
            go_wp2_with fail
            clear c0 c1 c2 x0 x1
            refine (HZ.out _ H2.out).mono ?_
            rintro e w3 ⟨rfl, hw3⟩
            have H3 := hideH (bthen H2.out hw3)
            have C3 := hideH (heap_on C2.out hw3)
            have X3 := hideH (heap_on X2.out hw3)
            clear hw3 H2 C2 X2 HZ
            obtain ⟨c0, c1, c2⟩ := cells3 C3.out
            obtain ⟨x0, x1⟩ := cells2 X3.out
            go_wp2_with fail
            clear c0 c1 c2 x0 x1
            refine (HZ2.out _ H3.out).mono ?_
            rintro e w4 ⟨rfl, hw4⟩
            have H4 := hideH (bthen H3.out hw4)
            have C4 := hideH (heap_on C3.out hw4)
            clear hw4 H3 C3 X3 HZ2
            go_wp2_with fail
            refine (dataBegun_c _ (HL.out.on H4.out) (HM.out.on H4.out)).mono ?_
            rintro e w5 ⟨rfl, hw5⟩
            have H5 := hideH (bthen H4.out hw5)
            obtain ⟨c0, c1, c2⟩ := cells3 (heap_on C4.out hw5)
            clear hw5 H4 C4
            go_wp2_with fail
            go_ret
            exact ⟨rfl, H5.out⟩
  · have hne : (chkE D != 0) = true := by rw [bne_iff_ne]; exact q2
    clear q1 q2
    go_wp2_with fail
    refine (dataBegun_c _ (HL.out.on H1.out) (HM.out.on H1.out)).mono ?_
    rintro e w2 ⟨rfl, hw2⟩
    go_wp2_with fail
    go_ret
    exact ⟨rfl, bthen H1.out hw2⟩
end Go.Proofs.YtjjgjgipmcejdabDoor

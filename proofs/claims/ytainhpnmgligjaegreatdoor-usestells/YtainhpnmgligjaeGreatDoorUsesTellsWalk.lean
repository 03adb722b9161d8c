/- The walk of the statement UsesTells: it returns true, and nothing that lay in memory has turned. -/
import Derived.Test.YtainhpnmgligjaeGreatDoorUsesKAll
import Derived.Test.YtainhpnmgligjaeGreatDoorUsesGAll
import Derived.Test.YtainhpnmgligjaeGreatDoorUsesSAll
import Derived.Laws.Cover1
import Derived.Deep.RegionHeld3
namespace Go.Proofs.YtainhpnmgligjaeGreatDoor
open Go Go.RowKit Go.Maps
set_option linter.unusedVariables false

theorem uznL_lenU (D : Dt) (n : Nat) (us : Nat → Us) (m : ByteArray) (t : Int) : (uznL D n us m t).length ≤ 1000 := by
  unfold uznL
  by_cases h : uznE D n us m t = 0
  · rw [if_pos h]
    have h0 : ucat D n us t = 0 := by
      unfold uznE at h
      by_cases hq : ucat D n us t = 0
      · exact hq
      · rw [if_neg hq] at h; exact absurd h hq
    have h1 : (srt (zlst D us n m t D.nz)).length = (zlst D us n m t D.nz).length := List.length_mergeSort _
    have h2 := zlst_len D us n m t D.nz
    have h3 := (chk_parts (uchk_ok (ucat_ok h0).1).1).1.2.1
    omega
  · rw [if_neg h]; simp
theorem boxU_on {w w' : World} {b : Nat} {x y z : Value} (h : w.cell? ⟨b, 0, none⟩ = some x ∧ w.cell? ⟨b, 1, none⟩ = some y ∧ w.cell? ⟨b, 2, none⟩ = some z) (hb : Below w.heap.size w w') : w'.cell? ⟨b, 0, none⟩ = some x ∧ w'.cell? ⟨b, 1, none⟩ = some y ∧ w'.cell? ⟨b, 2, none⟩ = some z :=
  ⟨cell_on h.1 hb, cell_on h.2.1 hb, cell_on h.2.2 hb⟩
set_option maxRecDepth 100000 in
set_option maxHeartbeats 8000000 in
theorem UsesTells_w (D : Dt) (a : Option Addr) (n c : Nat) (us : Nat → Us) (s m : ByteArray) (t : Int) (w : World) (hL : Laid w) (hM : Mx w) (hD : DAt w D) (hF : D.fits) (hn : n ≤ maxLen) (hc : n ≤ c) (hU : UAt w a n us) (hf : ∀ j, j < n → (us j).fits) (hs : s.size ≤ maxLen) (hm : m.size ≤ maxLen) (ht : -9223372036854775808 ≤ t ∧ t ≤ 9223372036854775807) :
    Calls Tryz.prog 3 #[D.v, .slice a n c, .string s, .string m, .int .i64 t] w fun e w' => e = .returned (.bool true) ∧ Below w.heap.size w w' := by
  have HL := hideH hL
  have HM := hideH hM
  have HE : Hid (∀ v : World, Below w.heap.size w v → UEnv v D a n c us) := fun v h => ⟨⟨hL.on h, hM.on h, hD.on h⟩, hF, hn, hc, hU.on h, hf⟩
  have HBg : Hid (∀ v : World, Below w.heap.size w v → Calls Tryz.prog 10 #[] v fun e w' => e = .returned (.bool true) ∧ Below v.heap.size v w') := fun v h => usesBegun_c v (HL.out.on h) (HM.out.on h)
  have HMe := hideH (fun v (hv : Below w.heap.size w v) => Meta_c D a n c us s t v (HE.out v hv) hs)
  have HZo := hideH (fun v (hv : Below w.heap.size w v) => Zones_c D a n c us m t v (HE.out v hv) hm)
  have HRM := hideH (fun v (hv : Below w.heap.size w v) => RMetaOf_c D a n c us s t v (hD.on hv) hF hn (hU.on hv) hf hs)
  have HRZ := hideH (fun v (hv : Below w.heap.size w v) => RZonesOf_c D a n c us m t v (hD.on hv) hF hn (hU.on hv) hf hm)
  have HCk := hideH (fun v (hv : Below w.heap.size w v) => UCheck_c D a n c us v ⟨hL.on hv, hM.on hv, hD.on hv⟩ hF hn hc (hU.on hv) hf)
  have HRC := hideH (fun v (hv : Below w.heap.size w v) => RCheckUses_c D a n c us v (hD.on hv) hF hn (hU.on hv) hf)
  have HLN := hideH (uznL_lenU D n us m t)
  generalize uznL D n us m t = zl at HZo HRZ HLN
  generalize uznE D n us m t = ze at HZo HRZ
  generalize umtR D n us s t = mr at HMe HRM
  generalize umtE D n us s t = me at HMe HRM
  generalize uchk D n us = ck at HCk HRC
  have B0 := hideH ((Below.refl _ w).alloc (Nat.le_refl _) (.cells #[.slice D.sa D.ns D.sc, .slice D.za D.nz D.zc, .slice D.la D.nl D.lc] 26))
  have C0 := hideH (World.alloc_heap_new w (.cells #[.slice D.sa D.ns D.sc, .slice D.za D.nz D.zc, .slice D.la D.nl D.lc] 26))
  clear hL hM hD hF hn hc hU hf hs hm ht
  go_enter Tryz.func3, Tryz.ntmps3
  go_wp2_with fail
  refine (HMe.out _ B0.out).mono ?_
  rintro e w1 ⟨rfl, hw1⟩
  have H1 := hideH (bthen B0.out hw1)
  have C1 := hideH (heap_on C0.out hw1)
  clear hw1
  obtain ⟨z0, z1, z2⟩ := cells3 C1.out
  go_wp2_with fail
  clear z0 z1 z2
  refine (HZo.out _ H1.out).mono ?_
  rintro e w2 ⟨az, cz, rfl, -, htx, hw2⟩
  have H2 := hideH (bthen H1.out hw2)
  have C2 := hideH (heap_on C1.out hw2)
  have T2 := hideH htx
  clear hw2 htx
  obtain ⟨z0, z1, z2⟩ := cells3 C2.out
  go_wp2_with fail
  clear z0 z1 z2
  refine (HRM.out _ H2.out).mono ?_
  rintro e w3 ⟨rfl, hw3⟩
  have H3 := hideH (bthen H2.out hw3)
  have C3 := hideH (heap_on C2.out hw3)
  have T3 := hideH (T2.out.on hw3)
  clear hw3 T2
  obtain ⟨z0, z1, z2⟩ := cells3 C3.out
  go_wp2_with fail
  clear z0 z1 z2
  refine (HRZ.out _ H3.out).mono ?_
  rintro e w4 ⟨az2, cz2, rfl, -, htx, hw4⟩
  have H4 := hideH (bthen H3.out hw4)
  have C4 := hideH (cells3 (heap_on C3.out hw4))
  have T4 := hideH (T3.out.on hw4)
  have X4 := hideH htx
  clear hw4 T3 htx C0 C1 C2 C3 B0 H1 H2 H3
  have HSm : Hid (∀ v, Below w4.heap.size w4 v → Calls Tryz.prog 13 #[.slice az zl.length cz, .slice az2 zl.length cz2] v fun e w' => e = .returned (.bool true) ∧ Below v.heap.size v w') := fun v hv => by
    have := SameTexts_c az az2 cz cz2 zl zl v (T4.out.on hv) (X4.out.on hv) HLN.out HLN.out
    rwa [show decide (zl = zl) = true by simp] at this
  clear T4 X4 HLN
  obtain ⟨c0, c1, c2⟩ := C4.out
  go_wp2_with fail
  go_region_held3 (fun v => v.cell? ⟨w.heap.size, 0, none⟩ = some (.slice D.sa D.ns D.sc) ∧ v.cell? ⟨w.heap.size, 1, none⟩ = some (.slice D.za D.nz D.zc) ∧ v.cell? ⟨w.heap.size, 2, none⟩ = some (.slice D.la D.nl D.lc))
    (first | (exact C4.out) | (exact boxU_on (w := w4.drew) C4.out hw5) | (exact boxU_on (boxU_on (w := w4.drew) C4.out hw5) hw6) | (exact boxU_on (boxU_on (boxU_on (w := w4.drew) C4.out hw5) hw6) hw7) | (exact boxU_on (boxU_on (boxU_on (boxU_on (w := w4.drew) C4.out hw5) hw6) hw7) hw8))
    (first
    | (go_at_call 10; refine (HBg.out _ (by exact H4.out.drew)).mono ?_; rintro e w5 ⟨rfl, hw5⟩)
    | (go_at_call 11; refine (HCk.out _ (by exact bthen (w := w) (a := w4.drew) H4.out.drew hw5)).mono ?_; rintro e w6 ⟨rfl, hw6⟩)
    | (go_at_call 12; refine (HRC.out _ (by exact bthen (bthen (w := w) (a := w4.drew) H4.out.drew hw5) hw6)).mono ?_; rintro e w7 ⟨rfl, hw7⟩)
    | (go_at_call 13; refine (HSm.out _ (by exact bthen (bthen (bthen (w := w4) (a := w4.drew) (Below.refl _ w4).drew hw5) hw6) hw7)).mono ?_; rintro e w8 ⟨rfl, hw8⟩))
  all_goals
    go_wp2_with fail
    go_ret
    exact ⟨ret_bool (by simp), bthen (bthen (bthen (bthen (w := w) (a := w4.drew) H4.out.drew hw5) hw6) hw7) hw8⟩
end Go.Proofs.YtainhpnmgligjaeGreatDoor

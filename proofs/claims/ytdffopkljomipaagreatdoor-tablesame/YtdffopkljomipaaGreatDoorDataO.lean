/- Contracts of package data: Zone's own literal, where a name leads nowhere. -/
import Derived.Test.YtdffopkljomipaaGreatDoorDataN
namespace Go.Proofs.YtdffopkljomipaaGreatDoor
open Go Go.RowKit
set_option linter.unusedVariables false

set_option maxRecDepth 100000 in
set_option maxHeartbeats 1000000 in
theorem Zone1_lead (D : Dt) (s : ByteArray) (bd bn bz : Nat) (w : World) (hd : w.heap[bd]? = some (.cells #[.slice D.sa D.ns D.sc, .slice D.za D.nz D.zc, .slice D.la D.nl D.lc] 26)) (hn : w.heap[bn]? = some (.cells #[.string s] 9)) (hz : Boxed w bz 3 (.int .i64 0))
    (hE : Env w D) (hF : D.fits) (hs : s.size ≤ maxLen) (h0 : chkE D = 0) (h1 : (leadK D (D.nl + 1) s).2 ≠ 0) :
    Calls Tryz.prog 28 #[.pointer (some ⟨bd, 0, none⟩), .pointer (some ⟨bn, 0, none⟩), .pointer (some ⟨bz, 0, none⟩)] w fun e w' => e = pan (leadK D (D.nl + 1) s).2 ∧ Below w.heap.size w w' := by
  obtain ⟨c0, c1, c2⟩ := cells3 hd
  have cn : w.cell? ⟨bn, 0, none⟩ = some (.string s) := by simp [World.cell?, hn]
  have HDD := hideH hd
  have HNN := hideH hn
  have HZZ := hideH hz
  have HE := hideH hE
  have HF := hideH hF
  have HS := hideH hs
  have H0 := hideH h0
  have H1 := hideH h1
  clear h1
  have hdr := hideH (Below.refl w.heap.size w).drew
  clear hd hn hz hE hF h0 hs
  go_enter Tryz.func28, Tryz.ntmps28
  refine wp_region_any (by kernel_rfl) ?_
  change wpAny _ _ _ _ _ _ _ (World.drew _)
  refine wpAny_ready (rs := [0, 1, 3]) (by kernel_rfl) (by simp) ?_
  refine AllReady.cons rfl (fun K hK => ?_) ?_
  · go_simp
    refine hK _ _ ?_
    clear hK K
    refine wpAny_ready (rs := [1, 3]) (by kernel_rfl) (by simp) ?_
    refine AllReady.cons rfl (fun K hK => ?_) ?_
    · go_simp
      refine hK _ _ ?_
      clear hK K
      refine wpAny_ready (rs := [2, 3]) (by kernel_rfl) (by simp) ?_
      refine AllReady.cons rfl (fun K hK => ?_) ?_
      · go_simp
        refine (check_ok D _ (HE.out.on hdr.out) HF.out H0.out).mono ?_
        rintro e w1 ⟨B, rfl, hw, f1, dd, mm⟩
        have HW := hideH hw
        have F1 := hideH f1
        have DD := hideH dd
        have MM := hideH mm
        obtain ⟨e0, e1, e2⟩ := cells3 (heap_on (w := w.drew) HDD.out hw)
        have en : w1.cell? ⟨bn, 0, none⟩ = some (.string s) := by have h := heap_on (w := w.drew) HNN.out hw; simp [World.cell?, h]
        clear hw f1 dd mm c0 c1 c2 cn
        refine hK _ _ ?_
        clear hK K
        refine wpAny_ready (rs := [3]) (by kernel_rfl) (by simp) ?_
        refine AllReady.cons rfl (fun K hK => ?_) ?_
        · go_simp
          refine hK _ _ ?_
          clear hK K
          refine wpAny_ready (rs := [4]) (by kernel_rfl) (by simp) ?_
          refine AllReady.cons rfl (fun K hK => ?_) ?_
          · go_simp
            refine (lead_no D s B _ (HE.out.on (hdr.out.trans HW.out)).dat HF.out F1.out DD.out MM.out HS.out H1.out).mono ?_
            rintro e w2 ⟨rfl, hw2⟩
            exact ⟨rfl, rfl, bthen (hdr.out.trans HW.out) hw2⟩
          exact AllReady.nil
        exact AllReady.nil
      refine AllReady.cons rfl (fun K hK => ?_) ?_
      · go_simp
        refine hK _ _ ?_
        clear hK K
        refine wpAny_ready (rs := [2]) (by kernel_rfl) (by simp) ?_
        refine AllReady.cons rfl (fun K hK => ?_) ?_
        · go_simp
          refine (check_ok D _ (HE.out.on hdr.out) HF.out H0.out).mono ?_
          rintro e w1 ⟨B, rfl, hw, f1, dd, mm⟩
          have HW := hideH hw
          have F1 := hideH f1
          have DD := hideH dd
          have MM := hideH mm
          obtain ⟨e0, e1, e2⟩ := cells3 (heap_on (w := w.drew) HDD.out hw)
          have en : w1.cell? ⟨bn, 0, none⟩ = some (.string s) := by have h := heap_on (w := w.drew) HNN.out hw; simp [World.cell?, h]
          clear hw f1 dd mm c0 c1 c2 cn
          refine hK _ _ ?_
          clear hK K
          refine wpAny_ready (rs := [4]) (by kernel_rfl) (by simp) ?_
          refine AllReady.cons rfl (fun K hK => ?_) ?_
          · go_simp
            refine (lead_no D s B _ (HE.out.on (hdr.out.trans HW.out)).dat HF.out F1.out DD.out MM.out HS.out H1.out).mono ?_
            rintro e w2 ⟨rfl, hw2⟩
            exact ⟨rfl, rfl, bthen (hdr.out.trans HW.out) hw2⟩
          exact AllReady.nil
        exact AllReady.nil
      exact AllReady.nil
    refine AllReady.cons rfl (fun K hK => ?_) ?_
    · go_simp
      refine hK _ _ ?_
      clear hK K
      refine wpAny_ready (rs := [1]) (by kernel_rfl) (by simp) ?_
      refine AllReady.cons rfl (fun K hK => ?_) ?_
      · go_simp
        refine hK _ _ ?_
        clear hK K
        refine wpAny_ready (rs := [2]) (by kernel_rfl) (by simp) ?_
        refine AllReady.cons rfl (fun K hK => ?_) ?_
        · go_simp
          refine (check_ok D _ (HE.out.on hdr.out) HF.out H0.out).mono ?_
          rintro e w1 ⟨B, rfl, hw, f1, dd, mm⟩
          have HW := hideH hw
          have F1 := hideH f1
          have DD := hideH dd
          have MM := hideH mm
          obtain ⟨e0, e1, e2⟩ := cells3 (heap_on (w := w.drew) HDD.out hw)
          have en : w1.cell? ⟨bn, 0, none⟩ = some (.string s) := by have h := heap_on (w := w.drew) HNN.out hw; simp [World.cell?, h]
          clear hw f1 dd mm c0 c1 c2 cn
          refine hK _ _ ?_
          clear hK K
          refine wpAny_ready (rs := [4]) (by kernel_rfl) (by simp) ?_
          refine AllReady.cons rfl (fun K hK => ?_) ?_
          · go_simp
            refine (lead_no D s B _ (HE.out.on (hdr.out.trans HW.out)).dat HF.out F1.out DD.out MM.out HS.out H1.out).mono ?_
            rintro e w2 ⟨rfl, hw2⟩
            exact ⟨rfl, rfl, bthen (hdr.out.trans HW.out) hw2⟩
          exact AllReady.nil
        exact AllReady.nil
      exact AllReady.nil
    exact AllReady.nil
  refine AllReady.cons rfl (fun K hK => ?_) ?_
  · go_simp
    refine hK _ _ ?_
    clear hK K
    refine wpAny_ready (rs := [0, 2, 3]) (by kernel_rfl) (by simp) ?_
    refine AllReady.cons rfl (fun K hK => ?_) ?_
    · go_simp
      refine hK _ _ ?_
      clear hK K
      refine wpAny_ready (rs := [2, 3]) (by kernel_rfl) (by simp) ?_
      refine AllReady.cons rfl (fun K hK => ?_) ?_
      · go_simp
        refine (check_ok D _ (HE.out.on hdr.out) HF.out H0.out).mono ?_
        rintro e w1 ⟨B, rfl, hw, f1, dd, mm⟩
        have HW := hideH hw
        have F1 := hideH f1
        have DD := hideH dd
        have MM := hideH mm
        obtain ⟨e0, e1, e2⟩ := cells3 (heap_on (w := w.drew) HDD.out hw)
        have en : w1.cell? ⟨bn, 0, none⟩ = some (.string s) := by have h := heap_on (w := w.drew) HNN.out hw; simp [World.cell?, h]
        clear hw f1 dd mm c0 c1 c2 cn
        refine hK _ _ ?_
        clear hK K
        refine wpAny_ready (rs := [3]) (by kernel_rfl) (by simp) ?_
        refine AllReady.cons rfl (fun K hK => ?_) ?_
        · go_simp
          refine hK _ _ ?_
          clear hK K
          refine wpAny_ready (rs := [4]) (by kernel_rfl) (by simp) ?_
          refine AllReady.cons rfl (fun K hK => ?_) ?_
          · go_simp
            refine (lead_no D s B _ (HE.out.on (hdr.out.trans HW.out)).dat HF.out F1.out DD.out MM.out HS.out H1.out).mono ?_
            rintro e w2 ⟨rfl, hw2⟩
            exact ⟨rfl, rfl, bthen (hdr.out.trans HW.out) hw2⟩
          exact AllReady.nil
        exact AllReady.nil
      refine AllReady.cons rfl (fun K hK => ?_) ?_
      · go_simp
        refine hK _ _ ?_
        clear hK K
        refine wpAny_ready (rs := [2]) (by kernel_rfl) (by simp) ?_
        refine AllReady.cons rfl (fun K hK => ?_) ?_
        · go_simp
          refine (check_ok D _ (HE.out.on hdr.out) HF.out H0.out).mono ?_
          rintro e w1 ⟨B, rfl, hw, f1, dd, mm⟩
          have HW := hideH hw
          have F1 := hideH f1
          have DD := hideH dd
          have MM := hideH mm
          obtain ⟨e0, e1, e2⟩ := cells3 (heap_on (w := w.drew) HDD.out hw)
          have en : w1.cell? ⟨bn, 0, none⟩ = some (.string s) := by have h := heap_on (w := w.drew) HNN.out hw; simp [World.cell?, h]
          clear hw f1 dd mm c0 c1 c2 cn
          refine hK _ _ ?_
          clear hK K
          refine wpAny_ready (rs := [4]) (by kernel_rfl) (by simp) ?_
          refine AllReady.cons rfl (fun K hK => ?_) ?_
          · go_simp
            refine (lead_no D s B _ (HE.out.on (hdr.out.trans HW.out)).dat HF.out F1.out DD.out MM.out HS.out H1.out).mono ?_
            rintro e w2 ⟨rfl, hw2⟩
            exact ⟨rfl, rfl, bthen (hdr.out.trans HW.out) hw2⟩
          exact AllReady.nil
        exact AllReady.nil
      exact AllReady.nil
    refine AllReady.cons rfl (fun K hK => ?_) ?_
    · go_simp
      refine (check_ok D _ (HE.out.on hdr.out) HF.out H0.out).mono ?_
      rintro e w1 ⟨B, rfl, hw, f1, dd, mm⟩
      have HW := hideH hw
      have F1 := hideH f1
      have DD := hideH dd
      have MM := hideH mm
      obtain ⟨e0, e1, e2⟩ := cells3 (heap_on (w := w.drew) HDD.out hw)
      have en : w1.cell? ⟨bn, 0, none⟩ = some (.string s) := by have h := heap_on (w := w.drew) HNN.out hw; simp [World.cell?, h]
      clear hw f1 dd mm c0 c1 c2 cn
      refine hK _ _ ?_
      clear hK K
      refine wpAny_ready (rs := [0, 3]) (by kernel_rfl) (by simp) ?_
      refine AllReady.cons rfl (fun K hK => ?_) ?_
      · go_simp
        refine hK _ _ ?_
        clear hK K
        refine wpAny_ready (rs := [3]) (by kernel_rfl) (by simp) ?_
        refine AllReady.cons rfl (fun K hK => ?_) ?_
        · go_simp
          refine hK _ _ ?_
          clear hK K
          refine wpAny_ready (rs := [4]) (by kernel_rfl) (by simp) ?_
          refine AllReady.cons rfl (fun K hK => ?_) ?_
          · go_simp
            refine (lead_no D s B _ (HE.out.on (hdr.out.trans HW.out)).dat HF.out F1.out DD.out MM.out HS.out H1.out).mono ?_
            rintro e w2 ⟨rfl, hw2⟩
            exact ⟨rfl, rfl, bthen (hdr.out.trans HW.out) hw2⟩
          exact AllReady.nil
        exact AllReady.nil
      refine AllReady.cons rfl (fun K hK => ?_) ?_
      · go_simp
        refine hK _ _ ?_
        clear hK K
        refine wpAny_ready (rs := [0]) (by kernel_rfl) (by simp) ?_
        refine AllReady.cons rfl (fun K hK => ?_) ?_
        · go_simp
          refine hK _ _ ?_
          clear hK K
          refine wpAny_ready (rs := [4]) (by kernel_rfl) (by simp) ?_
          refine AllReady.cons rfl (fun K hK => ?_) ?_
          · go_simp
            refine (lead_no D s B _ (HE.out.on (hdr.out.trans HW.out)).dat HF.out F1.out DD.out MM.out HS.out H1.out).mono ?_
            rintro e w2 ⟨rfl, hw2⟩
            exact ⟨rfl, rfl, bthen (hdr.out.trans HW.out) hw2⟩
          exact AllReady.nil
        exact AllReady.nil
      exact AllReady.nil
    refine AllReady.cons rfl (fun K hK => ?_) ?_
    · go_simp
      refine hK _ _ ?_
      clear hK K
      refine wpAny_ready (rs := [0, 2]) (by kernel_rfl) (by simp) ?_
      refine AllReady.cons rfl (fun K hK => ?_) ?_
      · go_simp
        refine hK _ _ ?_
        clear hK K
        refine wpAny_ready (rs := [2]) (by kernel_rfl) (by simp) ?_
        refine AllReady.cons rfl (fun K hK => ?_) ?_
        · go_simp
          refine (check_ok D _ (HE.out.on hdr.out) HF.out H0.out).mono ?_
          rintro e w1 ⟨B, rfl, hw, f1, dd, mm⟩
          have HW := hideH hw
          have F1 := hideH f1
          have DD := hideH dd
          have MM := hideH mm
          obtain ⟨e0, e1, e2⟩ := cells3 (heap_on (w := w.drew) HDD.out hw)
          have en : w1.cell? ⟨bn, 0, none⟩ = some (.string s) := by have h := heap_on (w := w.drew) HNN.out hw; simp [World.cell?, h]
          clear hw f1 dd mm c0 c1 c2 cn
          refine hK _ _ ?_
          clear hK K
          refine wpAny_ready (rs := [4]) (by kernel_rfl) (by simp) ?_
          refine AllReady.cons rfl (fun K hK => ?_) ?_
          · go_simp
            refine (lead_no D s B _ (HE.out.on (hdr.out.trans HW.out)).dat HF.out F1.out DD.out MM.out HS.out H1.out).mono ?_
            rintro e w2 ⟨rfl, hw2⟩
            exact ⟨rfl, rfl, bthen (hdr.out.trans HW.out) hw2⟩
          exact AllReady.nil
        exact AllReady.nil
      refine AllReady.cons rfl (fun K hK => ?_) ?_
      · go_simp
        refine (check_ok D _ (HE.out.on hdr.out) HF.out H0.out).mono ?_
        rintro e w1 ⟨B, rfl, hw, f1, dd, mm⟩
        have HW := hideH hw
        have F1 := hideH f1
        have DD := hideH dd
        have MM := hideH mm
        obtain ⟨e0, e1, e2⟩ := cells3 (heap_on (w := w.drew) HDD.out hw)
        have en : w1.cell? ⟨bn, 0, none⟩ = some (.string s) := by have h := heap_on (w := w.drew) HNN.out hw; simp [World.cell?, h]
        clear hw f1 dd mm c0 c1 c2 cn
        refine hK _ _ ?_
        clear hK K
        refine wpAny_ready (rs := [0]) (by kernel_rfl) (by simp) ?_
        refine AllReady.cons rfl (fun K hK => ?_) ?_
        · go_simp
          refine hK _ _ ?_
          clear hK K
          refine wpAny_ready (rs := [4]) (by kernel_rfl) (by simp) ?_
          refine AllReady.cons rfl (fun K hK => ?_) ?_
          · go_simp
            refine (lead_no D s B _ (HE.out.on (hdr.out.trans HW.out)).dat HF.out F1.out DD.out MM.out HS.out H1.out).mono ?_
            rintro e w2 ⟨rfl, hw2⟩
            exact ⟨rfl, rfl, bthen (hdr.out.trans HW.out) hw2⟩
          exact AllReady.nil
        exact AllReady.nil
      exact AllReady.nil
    exact AllReady.nil
  refine AllReady.cons rfl (fun K hK => ?_) ?_
  · go_simp
    refine hK _ _ ?_
    clear hK K
    refine wpAny_ready (rs := [0, 1]) (by kernel_rfl) (by simp) ?_
    refine AllReady.cons rfl (fun K hK => ?_) ?_
    · go_simp
      refine hK _ _ ?_
      clear hK K
      refine wpAny_ready (rs := [1]) (by kernel_rfl) (by simp) ?_
      refine AllReady.cons rfl (fun K hK => ?_) ?_
      · go_simp
        refine hK _ _ ?_
        clear hK K
        refine wpAny_ready (rs := [2]) (by kernel_rfl) (by simp) ?_
        refine AllReady.cons rfl (fun K hK => ?_) ?_
        · go_simp
          refine (check_ok D _ (HE.out.on hdr.out) HF.out H0.out).mono ?_
          rintro e w1 ⟨B, rfl, hw, f1, dd, mm⟩
          have HW := hideH hw
          have F1 := hideH f1
          have DD := hideH dd
          have MM := hideH mm
          obtain ⟨e0, e1, e2⟩ := cells3 (heap_on (w := w.drew) HDD.out hw)
          have en : w1.cell? ⟨bn, 0, none⟩ = some (.string s) := by have h := heap_on (w := w.drew) HNN.out hw; simp [World.cell?, h]
          clear hw f1 dd mm c0 c1 c2 cn
          refine hK _ _ ?_
          clear hK K
          refine wpAny_ready (rs := [4]) (by kernel_rfl) (by simp) ?_
          refine AllReady.cons rfl (fun K hK => ?_) ?_
          · go_simp
            refine (lead_no D s B _ (HE.out.on (hdr.out.trans HW.out)).dat HF.out F1.out DD.out MM.out HS.out H1.out).mono ?_
            rintro e w2 ⟨rfl, hw2⟩
            exact ⟨rfl, rfl, bthen (hdr.out.trans HW.out) hw2⟩
          exact AllReady.nil
        exact AllReady.nil
      exact AllReady.nil
    refine AllReady.cons rfl (fun K hK => ?_) ?_
    · go_simp
      refine hK _ _ ?_
      clear hK K
      refine wpAny_ready (rs := [0, 2]) (by kernel_rfl) (by simp) ?_
      refine AllReady.cons rfl (fun K hK => ?_) ?_
      · go_simp
        refine hK _ _ ?_
        clear hK K
        refine wpAny_ready (rs := [2]) (by kernel_rfl) (by simp) ?_
        refine AllReady.cons rfl (fun K hK => ?_) ?_
        · go_simp
          refine (check_ok D _ (HE.out.on hdr.out) HF.out H0.out).mono ?_
          rintro e w1 ⟨B, rfl, hw, f1, dd, mm⟩
          have HW := hideH hw
          have F1 := hideH f1
          have DD := hideH dd
          have MM := hideH mm
          obtain ⟨e0, e1, e2⟩ := cells3 (heap_on (w := w.drew) HDD.out hw)
          have en : w1.cell? ⟨bn, 0, none⟩ = some (.string s) := by have h := heap_on (w := w.drew) HNN.out hw; simp [World.cell?, h]
          clear hw f1 dd mm c0 c1 c2 cn
          refine hK _ _ ?_
          clear hK K
          refine wpAny_ready (rs := [4]) (by kernel_rfl) (by simp) ?_
          refine AllReady.cons rfl (fun K hK => ?_) ?_
          · go_simp
            refine (lead_no D s B _ (HE.out.on (hdr.out.trans HW.out)).dat HF.out F1.out DD.out MM.out HS.out H1.out).mono ?_
            rintro e w2 ⟨rfl, hw2⟩
            exact ⟨rfl, rfl, bthen (hdr.out.trans HW.out) hw2⟩
          exact AllReady.nil
        exact AllReady.nil
      refine AllReady.cons rfl (fun K hK => ?_) ?_
      · go_simp
        refine (check_ok D _ (HE.out.on hdr.out) HF.out H0.out).mono ?_
        rintro e w1 ⟨B, rfl, hw, f1, dd, mm⟩
        have HW := hideH hw
        have F1 := hideH f1
        have DD := hideH dd
        have MM := hideH mm
        obtain ⟨e0, e1, e2⟩ := cells3 (heap_on (w := w.drew) HDD.out hw)
        have en : w1.cell? ⟨bn, 0, none⟩ = some (.string s) := by have h := heap_on (w := w.drew) HNN.out hw; simp [World.cell?, h]
        clear hw f1 dd mm c0 c1 c2 cn
        refine hK _ _ ?_
        clear hK K
        refine wpAny_ready (rs := [0]) (by kernel_rfl) (by simp) ?_
        refine AllReady.cons rfl (fun K hK => ?_) ?_
        · go_simp
          refine hK _ _ ?_
          clear hK K
          refine wpAny_ready (rs := [4]) (by kernel_rfl) (by simp) ?_
          refine AllReady.cons rfl (fun K hK => ?_) ?_
          · go_simp
            refine (lead_no D s B _ (HE.out.on (hdr.out.trans HW.out)).dat HF.out F1.out DD.out MM.out HS.out H1.out).mono ?_
            rintro e w2 ⟨rfl, hw2⟩
            exact ⟨rfl, rfl, bthen (hdr.out.trans HW.out) hw2⟩
          exact AllReady.nil
        exact AllReady.nil
      exact AllReady.nil
    exact AllReady.nil
  exact AllReady.nil
end Go.Proofs.YtdffopkljomipaaGreatDoor

/- Contracts of package data: Zone's own literal, where a name leads nowhere. -/
import Derived.Test.YtfjjdicgekgbeaaGreatDoorDataKAll
namespace Go.Proofs.YtfjjdicgekgbeaaGreatDoor
open Go Go.RowKit
set_option linter.unusedVariables false

set_option maxRecDepth 100000 in
set_option maxHeartbeats 1000000 in
theorem Zone1_lead (D : Dt) (s : ByteArray) (bd bn bz : Nat) (w : World) (hd : w.heap[bd]? = some (.cells #[.slice D.sa D.ns D.sc, .slice D.za D.nz D.zc, .slice D.la D.nl D.lc] 26)) (hn : w.heap[bn]? = some (.cells #[.string s] 9)) (hz : Boxed w bz 3 (.int .i64 0))
    (hE : Env w D) (hF : D.fits) (hs : s.size ≤ maxLen) (h0 : chkE D = 0) (h1 : (leadK D (D.nl + 1) s).2 ≠ 0) :
    Calls Tryz.prog 109 #[.pointer (some ⟨bd, 0, none⟩), .pointer (some ⟨bn, 0, none⟩), .pointer (some ⟨bz, 0, none⟩)] w fun e w' => e = pan (leadK D (D.nl + 1) s).2 ∧ Below w.heap.size w w' := by
  obtain ⟨c0, c1, c2⟩ := cells3 hd
  have cn : w.cell? ⟨bn, 0, none⟩ = some (.string s) := by simp [World.cell?, hn]
  have HDD := hideH hd
  have HNN := hideH hn
  have HZZ := hideH hz
  have HE := hideH hE
  have HF := hideH hF
  have HS := hideH hs
  have H0 := hideH h0
  have H1 := hideH h1
  clear h1
  have hdr := hideH (Below.refl w.heap.size w).drew
  clear hd hn hz hE hF h0 hs
  go_enter Tryz.func109, Tryz.ntmps109
  refine wp_region_any (by kernel_rfl) ?_
  change wpAny _ _ _ _ _ _ _ (World.drew _)
  refine wpAny_ready (rs := [0, 1, 3]) (by kernel_rfl) (by simp) ?_
  refine AllReady.cons rfl (fun K hK => ?_) ?_
  · go_simp
    refine hK _ _ ?_
    clear hK K
    refine wpAny_ready (rs := [1, 3]) (by kernel_rfl) (by simp) ?_
    refine AllReady.cons rfl (fun K hK => ?_) ?_
    · go_simp
      refine hK _ _ ?_
      clear hK K
      refine wpAny_ready (rs := [2, 3]) (by kernel_rfl) (by simp) ?_
      refine AllReady.cons rfl (fun K hK => ?_) ?_
      · go_simp
        refine (check_ok D _ (HE.out.on hdr.out) HF.out H0.out).mono ?_
        rintro e w1 ⟨B, rfl, hw, f1, dd, mm⟩
        have HW := hideH hw
        have F1 := hideH f1
        have DD := hideH dd
        have MM := hideH mm
        obtain ⟨e0, e1, e2⟩ := cells3 (heap_on (w := w.drew) HDD.out hw)
        have en : w1.cell? ⟨bn, 0, none⟩ = some (.string s) := by have h := heap_on (w := w.drew) HNN.out hw; simp [World.cell?, h]
        clear hw f1 dd mm c0 c1 c2 cn
        refine hK _ _ ?_
        clear hK K
        refine wpAny_ready (rs := [3]) (by kernel_rfl) (by simp) ?_
        refine AllReady.cons rfl (fun K hK => ?_) ?_
        · go_simp
          refine hK _ _ ?_
          clear hK K
          refine wpAny_ready (rs := [4]) (by kernel_rfl) (by simp) ?_
          refine AllReady.cons rfl (fun K hK => ?_) ?_
          · go_simp
            refine (lead_no D s B _ (HE.out.on (hdr.out.trans HW.out)).dat HF.out F1.out DD.out MM.out HS.out H1.out).mono ?_
            rintro e w2 ⟨rfl, hw2⟩
            exact ⟨rfl, rfl, bthen (hdr.out.trans HW.out) hw2⟩
          exact AllReady.nil
        exact AllReady.nil
      refine AllReady.cons rfl (fun K hK => ?_) ?_
      · go_simp
        refine hK _ _ ?_
        clear hK K
        refine wpAny_ready (rs := [2]) (by kernel_rfl) (by simp) ?_
        refine AllReady.cons rfl (fun K hK => ?_) ?_
        · go_simp
          refine (check_ok D _ (HE.out.on hdr.out) HF.out H0.out).mono ?_
          rintro e w1 ⟨B, rfl, hw, f1, dd, mm⟩
          have HW := hideH hw
          have F1 := hideH f1
          have DD := hideH dd
          have MM := hideH mm
          obtain ⟨e0, e1, e2⟩ := cells3 (heap_on (w := w.drew) HDD.out hw)
          have en : w1.cell? ⟨bn, 0, none⟩ = some (.string s) := by have h := heap_on (w := w.drew) HNN.out hw; simp [World.cell?, h]
          clear hw f1 dd mm c0 c1 c2 cn
          refine hK _ _ ?_
          clear hK K
          refine wpAny_ready (rs := [4]) (by kernel_rfl) (by simp) ?_
          refine AllReady.cons rfl (fun K hK => ?_) ?_
          · go_simp
            refine (lead_no D s B _ (HE.out.on (hdr.out.trans HW.out)).dat HF.out F1.out DD.out MM.out HS.out H1.out).mono ?_
            rintro e w2 ⟨rfl, hw2⟩
            exact ⟨rfl, rfl, bthen (hdr.out.trans HW.out) hw2⟩
          exact AllReady.nil
        exact AllReady.nil
      exact AllReady.nil
    refine AllReady.cons rfl (fun K hK => ?_) ?_
    · go_simp
      refine hK _ _ ?_
      clear hK K
      refine wpAny_ready (rs := [1]) (by kernel_rfl) (by simp) ?_
      refine AllReady.cons rfl (fun K hK => ?_) ?_
      · go_simp
        refine hK _ _ ?_
        clear hK K
        refine wpAny_ready (rs := [2]) (by kernel_rfl) (by simp) ?_
        refine AllReady.cons rfl (fun K hK => ?_) ?_
        · go_simp
          refine (check_ok D _ (HE.out.on hdr.out) HF.out H0.out).mono ?_
          rintro e w1 ⟨B, rfl, hw, f1, dd, mm⟩
          have HW := hideH hw
          have F1 := hideH f1
          have DD := hideH dd
          have MM := hideH mm
          obtain ⟨e0, e1, e2⟩ := cells3 (heap_on (w := w.drew) HDD.out hw)
          have en : w1.cell? ⟨bn, 0, none⟩ = some (.string s) := by have h := heap_on (w := w.drew) HNN.out hw; simp [World.cell?, h]
          clear hw f1 dd mm c0 c1 c2 cn
          refine hK _ _ ?_
          clear hK K
          refine wpAny_ready (rs := [4]) (by kernel_rfl) (by simp) ?_
          refine AllReady.cons rfl (fun K hK => ?_) ?_
          · go_simp
            refine (lead_no D s B _ (HE.out.on (hdr.out.trans HW.out)).dat HF.out F1.out DD.out MM.out HS.out H1.out).mono ?_
            rintro e w2 ⟨rfl, hw2⟩
            exact ⟨rfl, rfl, bthen (hdr.out.trans HW.out) hw2⟩
          exact AllReady.nil
        exact AllReady.nil
      exact AllReady.nil
    exact AllReady.nil
  refine AllReady.cons rfl (fun K hK => ?_) ?_
  · go_simp
    refine hK _ _ ?_
    clear hK K
    refine wpAny_ready (rs := [0, 2, 3]) (by kernel_rfl) (by simp) ?_
    refine AllReady.cons rfl (fun K hK => ?_) ?_
    · go_simp
      refine hK _ _ ?_
      clear hK K
      refine wpAny_ready (rs := [2, 3]) (by kernel_rfl) (by simp) ?_
      refine AllReady.cons rfl (fun K hK => ?_) ?_
      · go_simp
        refine (check_ok D _ (HE.out.on hdr.out) HF.out H0.out).mono ?_
        rintro e w1 ⟨B, rfl, hw, f1, dd, mm⟩
        have HW := hideH hw
        have F1 := hideH f1
        have DD := hideH dd
        have MM := hideH mm
        obtain ⟨e0, e1, e2⟩ := cells3 (heap_on (w := w.drew) HDD.out hw)
        have en : w1.cell? ⟨bn, 0, none⟩ = some (.string s) := by have h := heap_on (w := w.drew) HNN.out hw; simp [World.cell?, h]
        clear hw f1 dd mm c0 c1 c2 cn
        refine hK _ _ ?_
        clear hK K
        refine wpAny_ready (rs := [3]) (by kernel_rfl) (by simp) ?_
        refine AllReady.cons rfl (fun K hK => ?_) ?_
        · go_simp
          refine hK _ _ ?_
          clear hK K
          refine wpAny_ready (rs := [4]) (by kernel_rfl) (by simp) ?_
          refine AllReady.cons rfl (fun K hK => ?_) ?_
          · go_simp
            refine (lead_no D s B _ (HE.out.on (hdr.out.trans HW.out)).dat HF.out F1.out DD.out MM.out HS.out H1.out).mono ?_
            rintro e w2 ⟨rfl, hw2⟩
            exact ⟨rfl, rfl, bthen (hdr.out.trans HW.out) hw2⟩
          exact AllReady.nil
        exact AllReady.nil
      refine AllReady.cons rfl (fun K hK => ?_) ?_
      · go_simp
        refine hK _ _ ?_
        clear hK K
        refine wpAny_ready (rs := [2]) (by kernel_rfl) (by simp) ?_
        refine AllReady.cons rfl (fun K hK => ?_) ?_
        · go_simp
          refine (check_ok D _ (HE.out.on hdr.out) HF.out H0.out).mono ?_
          rintro e w1 ⟨B, rfl, hw, f1, dd, mm⟩
          have HW := hideH hw
          have F1 := hideH f1
          have DD := hideH dd
          have MM := hideH mm
          obtain ⟨e0, e1, e2⟩ := cells3 (heap_on (w := w.drew) HDD.out hw)
          have en : w1.cell? ⟨bn, 0, none⟩ = some (.string s) := by have h := heap_on (w := w.drew) HNN.out hw; simp [World.cell?, h]
          clear hw f1 dd mm c0 c1 c2 cn
          refine hK _ _ ?_
          clear hK K
          refine wpAny_ready (rs := [4]) (by kernel_rfl) (by simp) ?_
          refine AllReady.cons rfl (fun K hK => ?_) ?_
          · go_simp
            refine (lead_no D s B _ (HE.out.on (hdr.out.trans HW.out)).dat HF.out F1.out DD.out MM.out HS.out H1.out).mono ?_
            rintro e w2 ⟨rfl, hw2⟩
            exact ⟨rfl, rfl, bthen (hdr.out.trans HW.out) hw2⟩
          exact AllReady.nil
        exact AllReady.nil
      exact AllReady.nil
    refine AllReady.cons rfl (fun K hK => ?_) ?_
    · go_simp
      refine (check_ok D _ (HE.out.on hdr.out) HF.out H0.out).mono ?_
      rintro e w1 ⟨B, rfl, hw, f1, dd, mm⟩
      have HW := hideH hw
      have F1 := hideH f1
      have DD := hideH dd
      have MM := hideH mm
      obtain ⟨e0, e1, e2⟩ := cells3 (heap_on (w := w.drew) HDD.out hw)
      have en : w1.cell? ⟨bn, 0, none⟩ = some (.string s) := by have h := heap_on (w := w.drew) HNN.out hw; simp [World.cell?, h]
      clear hw f1 dd mm c0 c1 c2 cn
      refine hK _ _ ?_
      clear hK K
      refine wpAny_ready (rs := [0, 3]) (by kernel_rfl) (by simp) ?_
      refine AllReady.cons rfl (fun K hK => ?_) ?_
      · go_simp
        refine hK _ _ ?_
        clear hK K
        refine wpAny_ready (rs := [3]) (by kernel_rfl) (by simp) ?_
        refine AllReady.cons rfl (fun K hK => ?_) ?_
        · go_simp
          refine hK _ _ ?_
          clear hK K
          refine wpAny_ready (rs := [4]) (by kernel_rfl) (by simp) ?_
          refine AllReady.cons rfl (fun K hK => ?_) ?_
          · go_simp
            refine (lead_no D s B _ (HE.out.on (hdr.out.trans HW.out)).dat HF.out F1.out DD.out MM.out HS.out H1.out).mono ?_
            rintro e w2 ⟨rfl, hw2⟩
            exact ⟨rfl, rfl, bthen (hdr.out.trans HW.out) hw2⟩
          exact AllReady.nil
        exact AllReady.nil
      refine AllReady.cons rfl (fun K hK => ?_) ?_
      · go_simp
        refine hK _ _ ?_
        clear hK K
        refine wpAny_ready (rs := [0]) (by kernel_rfl) (by simp) ?_
        refine AllReady.cons rfl (fun K hK => ?_) ?_
        · go_simp
          refine hK _ _ ?_
          clear hK K
          refine wpAny_ready (rs := [4]) (by kernel_rfl) (by simp) ?_
          refine AllReady.cons rfl (fun K hK => ?_) ?_
          · go_simp
            refine (lead_no D s B _ (HE.out.on (hdr.out.trans HW.out)).dat HF.out F1.out DD.out MM.out HS.out H1.out).mono ?_
            rintro e w2 ⟨rfl, hw2⟩
            exact ⟨rfl, rfl, bthen (hdr.out.trans HW.out) hw2⟩
          exact AllReady.nil
        exact AllReady.nil
      exact AllReady.nil
    refine AllReady.cons rfl (fun K hK => ?_) ?_
    · go_simp
      refine hK _ _ ?_
      clear hK K
      refine wpAny_ready (rs := [0, 2]) (by kernel_rfl) (by simp) ?_
      refine AllReady.cons rfl (fun K hK => ?_) ?_
      · go_simp
        refine hK _ _ ?_
        clear hK K
        refine wpAny_ready (rs := [2]) (by kernel_rfl) (by simp) ?_
        refine AllReady.cons rfl (fun K hK => ?_) ?_
        · go_simp
          refine (check_ok D _ (HE.out.on hdr.out) HF.out H0.out).mono ?_
          rintro e w1 ⟨B, rfl, hw, f1, dd, mm⟩
          have HW := hideH hw
          have F1 := hideH f1
          have DD := hideH dd
          have MM := hideH mm
          obtain ⟨e0, e1, e2⟩ := cells3 (heap_on (w := w.drew) HDD.out hw)
          have en : w1.cell? ⟨bn, 0, none⟩ = some (.string s) := by have h := heap_on (w := w.drew) HNN.out hw; simp [World.cell?, h]
          clear hw f1 dd mm c0 c1 c2 cn
          refine hK _ _ ?_
          clear hK K
          refine wpAny_ready (rs := [4]) (by kernel_rfl) (by simp) ?_
          refine AllReady.cons rfl (fun K hK => ?_) ?_
          · go_simp
            refine (lead_no D s B _ (HE.out.on (hdr.out.trans HW.out)).dat HF.out F1.out DD.out MM.out HS.out H1.out).mono ?_
            rintro e w2 ⟨rfl, hw2⟩
            exact ⟨rfl, rfl, bthen (hdr.out.trans HW.out) hw2⟩
          exact AllReady.nil
        exact AllReady.nil
      refine AllReady.cons rfl (fun K hK => ?_) ?_
      · go_simp
        refine (check_ok D _ (HE.out.on hdr.out) HF.out H0.out).mono ?_
        rintro e w1 ⟨B, rfl, hw, f1, dd, mm⟩
        have HW := hideH hw
        have F1 := hideH f1
        have DD := hideH dd
        have MM := hideH mm
        obtain ⟨e0, e1, e2⟩ := cells3 (heap_on (w := w.drew) HDD.out hw)
        have en : w1.cell? ⟨bn, 0, none⟩ = some (.string s) := by have h := heap_on (w := w.drew) HNN.out hw; simp [World.cell?, h]
        clear hw f1 dd mm c0 c1 c2 cn
        refine hK _ _ ?_
        clear hK K
        refine wpAny_ready (rs := [0]) (by kernel_rfl) (by simp) ?_
        refine AllReady.cons rfl (fun K hK => ?_) ?_
        · go_simp
          refine hK _ _ ?_
          clear hK K
          refine wpAny_ready (rs := [4]) (by kernel_rfl) (by simp) ?_
          refine AllReady.cons rfl (fun K hK => ?_) ?_
          · go_simp
            refine (lead_no D s B _ (HE.out.on (hdr.out.trans HW.out)).dat HF.out F1.out DD.out MM.out HS.out H1.out).mono ?_
            rintro e w2 ⟨rfl, hw2⟩
            exact ⟨rfl, rfl, bthen (hdr.out.trans HW.out) hw2⟩
          exact AllReady.nil
        exact AllReady.nil
      exact AllReady.nil
    exact AllReady.nil
  refine AllReady.cons rfl (fun K hK => ?_) ?_
  · go_simp
    refine hK _ _ ?_
    clear hK K
    refine wpAny_ready (rs := [0, 1]) (by kernel_rfl) (by simp) ?_
    refine AllReady.cons rfl (fun K hK => ?_) ?_
    · go_simp
      refine hK _ _ ?_
      clear hK K
      refine wpAny_ready (rs := [1]) (by kernel_rfl) (by simp) ?_
      refine AllReady.cons rfl (fun K hK => ?_) ?_
      · go_simp
        refine hK _ _ ?_
        clear hK K
        refine wpAny_ready (rs := [2]) (by kernel_rfl) (by simp) ?_
        refine AllReady.cons rfl (fun K hK => ?_) ?_
        · go_simp
          refine (check_ok D _ (HE.out.on hdr.out) HF.out H0.out).mono ?_
          rintro e w1 ⟨B, rfl, hw, f1, dd, mm⟩
          have HW := hideH hw
          have F1 := hideH f1
          have DD := hideH dd
          have MM := hideH mm
          obtain ⟨e0, e1, e2⟩ := cells3 (heap_on (w := w.drew) HDD.out hw)
          have en : w1.cell? ⟨bn, 0, none⟩ = some (.string s) := by have h := heap_on (w := w.drew) HNN.out hw; simp [World.cell?, h]
          clear hw f1 dd mm c0 c1 c2 cn
          refine hK _ _ ?_
          clear hK K
          refine wpAny_ready (rs := [4]) (by kernel_rfl) (by simp) ?_
          refine AllReady.cons rfl (fun K hK => ?_) ?_
          · go_simp
            refine (lead_no D s B _ (HE.out.on (hdr.out.trans HW.out)).dat HF.out F1.out DD.out MM.out HS.out H1.out).mono ?_
            rintro e w2 ⟨rfl, hw2⟩
            exact ⟨rfl, rfl, bthen (hdr.out.trans HW.out) hw2⟩
          exact AllReady.nil
        exact AllReady.nil
      exact AllReady.nil
    refine AllReady.cons rfl (fun K hK => ?_) ?_
    · go_simp
      refine hK _ _ ?_
      clear hK K
      refine wpAny_ready (rs := [0, 2]) (by kernel_rfl) (by simp) ?_
      refine AllReady.cons rfl (fun K hK => ?_) ?_
      · go_simp
        refine hK _ _ ?_
        clear hK K
        refine wpAny_ready (rs := [2]) (by kernel_rfl) (by simp) ?_
        refine AllReady.cons rfl (fun K hK => ?_) ?_
        · go_simp
          refine (check_ok D _ (HE.out.on hdr.out) HF.out H0.out).mono ?_
          rintro e w1 ⟨B, rfl, hw, f1, dd, mm⟩
          have HW := hideH hw
          have F1 := hideH f1
          have DD := hideH dd
          have MM := hideH mm
          obtain ⟨e0, e1, e2⟩ := cells3 (heap_on (w := w.drew) HDD.out hw)
          have en : w1.cell? ⟨bn, 0, none⟩ = some (.string s) := by have h := heap_on (w := w.drew) HNN.out hw; simp [World.cell?, h]
          clear hw f1 dd mm c0 c1 c2 cn
          refine hK _ _ ?_
          clear hK K
          refine wpAny_ready (rs := [4]) (by kernel_rfl) (by simp) ?_
          refine AllReady.cons rfl (fun K hK => ?_) ?_
          · go_simp
            refine (lead_no D s B _ (HE.out.on (hdr.out.trans HW.out)).dat HF.out F1.out DD.out MM.out HS.out H1.out).mono ?_
            rintro e w2 ⟨rfl, hw2⟩
            exact ⟨rfl, rfl, bthen (hdr.out.trans HW.out) hw2⟩
          exact AllReady.nil
        exact AllReady.nil
      refine AllReady.cons rfl (fun K hK => ?_) ?_
      · go_simp
        refine (check_ok D _ (HE.out.on hdr.out) HF.out H0.out).mono ?_
        rintro e w1 ⟨B, rfl, hw, f1, dd, mm⟩
        have HW := hideH hw
        have F1 := hideH f1
        have DD := hideH dd
        have MM := hideH mm
        obtain ⟨e0, e1, e2⟩ := cells3 (heap_on (w := w.drew) HDD.out hw)
        have en : w1.cell? ⟨bn, 0, none⟩ = some (.string s) := by have h := heap_on (w := w.drew) HNN.out hw; simp [World.cell?, h]
        clear hw f1 dd mm c0 c1 c2 cn
        refine hK _ _ ?_
        clear hK K
        refine wpAny_ready (rs := [0]) (by kernel_rfl) (by simp) ?_
        refine AllReady.cons rfl (fun K hK => ?_) ?_
        · go_simp
          refine hK _ _ ?_
          clear hK K
          refine wpAny_ready (rs := [4]) (by kernel_rfl) (by simp) ?_
          refine AllReady.cons rfl (fun K hK => ?_) ?_
          · go_simp
            refine (lead_no D s B _ (HE.out.on (hdr.out.trans HW.out)).dat HF.out F1.out DD.out MM.out HS.out H1.out).mono ?_
            rintro e w2 ⟨rfl, hw2⟩
            exact ⟨rfl, rfl, bthen (hdr.out.trans HW.out) hw2⟩
          exact AllReady.nil
        exact AllReady.nil
      exact AllReady.nil
    exact AllReady.nil
  exact AllReady.nil
end Go.Proofs.YtfjjdicgekgbeaaGreatDoor

/- Contracts of package data: Zone's own literal, where a name leads to a zone. -/
namespace Go.Proofs.YtfjjdicgekgbeaaGreatDoor
open Go Go.RowKit
set_option linter.unusedVariables false

set_option maxRecDepth 100000 in
set_option maxHeartbeats 1000000 in
theorem Zone1_ok (D : Dt) (s : ByteArray) (bd bn bz : Nat) (w : World) (hd : w.heap[bd]? = some (.cells #[.slice D.sa D.ns D.sc, .slice D.za D.nz D.zc, .slice D.la D.nl D.lc] 26)) (hn : w.heap[bn]? = some (.cells #[.string s] 9)) (hz : Boxed w bz 3 (.int .i64 0))
    (hE : Env w D) (hF : D.fits) (hs : s.size ≤ maxLen) (h0 : chkE D = 0) (h1 : (leadK D (D.nl + 1) s).2 = 0) :
    Calls Tryz.prog 109 #[.pointer (some ⟨bd, 0, none⟩), .pointer (some ⟨bn, 0, none⟩), .pointer (some ⟨bz, 0, none⟩)] w fun e w' => e = .returned (.tuple #[]) ∧ ∃ w2, Below w.heap.size w w2 ∧ w' = w2.setCell ⟨bz, 0, none⟩ (.int .i64 (leadK D (D.nl + 1) s).1) := by
  obtain ⟨c0, c1, c2⟩ := cells3 hd
  have cn : w.cell? ⟨bn, 0, none⟩ = some (.string s) := by simp [World.cell?, hn]
  have HDD := hideH hd
  have HNN := hideH hn
  have HZZ := hideH hz
  have HE := hideH hE
  have HF := hideH hF
  have HS := hideH hs
  have H0 := hideH h0
  have H1 := hideH h1
  clear h1
  have hdr := hideH (Below.refl w.heap.size w).drew
  clear hd hn hz hE hF h0 hs
  go_enter Tryz.func109, Tryz.ntmps109
  refine wp_region_any (by kernel_rfl) ?_
  change wpAny _ _ _ _ _ _ _ (World.drew _)
  refine wpAny_ready (rs := [0, 1, 3]) (by kernel_rfl) (by simp) ?_
  refine AllReady.cons rfl (fun K hK => ?_) ?_
  · go_simp
    refine hK _ _ ?_
    clear hK K
    refine wpAny_ready (rs := [1, 3]) (by kernel_rfl) (by simp) ?_
    refine AllReady.cons rfl (fun K hK => ?_) ?_
    · go_simp
      refine hK _ _ ?_
      clear hK K
      refine wpAny_ready (rs := [2, 3]) (by kernel_rfl) (by simp) ?_
      refine AllReady.cons rfl (fun K hK => ?_) ?_
      · go_simp
        refine (check_ok D _ (HE.out.on hdr.out) HF.out H0.out).mono ?_
        rintro e w1 ⟨B, rfl, hw, f1, dd, mm⟩
        have HW := hideH hw
        have F1 := hideH f1
        have DD := hideH dd
        have MM := hideH mm
        obtain ⟨e0, e1, e2⟩ := cells3 (heap_on (w := w.drew) HDD.out hw)
        have en : w1.cell? ⟨bn, 0, none⟩ = some (.string s) := by have h := heap_on (w := w.drew) HNN.out hw; simp [World.cell?, h]
        clear hw f1 dd mm c0 c1 c2 cn
        refine hK _ _ ?_
        clear hK K
        refine wpAny_ready (rs := [3]) (by kernel_rfl) (by simp) ?_
        refine AllReady.cons rfl (fun K hK => ?_) ?_
        · go_simp
          refine hK _ _ ?_
          clear hK K
          refine wpAny_ready (rs := [4]) (by kernel_rfl) (by simp) ?_
          refine AllReady.cons rfl (fun K hK => ?_) ?_
          · go_simp
            refine (lead_ok D s B _ (HE.out.on (hdr.out.trans HW.out)).dat HF.out F1.out DD.out MM.out HS.out H1.out).mono ?_
            rintro e w2 ⟨rfl, hw2⟩
            have HW2 := hideH (bthen (hdr.out.trans HW.out) hw2)
            have bz2 : Boxed w2 bz 3 (.int .i64 0) := heap_on HZZ.out HW2.out
            have ez := bz2.cell
            have fz := bz2.frozen
            clear hw2 bz2
            refine hK _ _ ?_
            clear hK K
            refine wpAny_ready (rs := [5]) (by kernel_rfl) (by simp) ?_
            refine AllReady.cons rfl (fun K hK => ?_) ?_
            · go_simp
              refine hK _ _ ?_
              clear hK K
              refine wpAny_done (by kernel_rfl) ?_ _
              go_end0
              exact ⟨rfl, w2, HW2.out, rfl⟩
            exact AllReady.nil
          exact AllReady.nil
        exact AllReady.nil
      refine AllReady.cons rfl (fun K hK => ?_) ?_
      · go_simp
        refine hK _ _ ?_
        clear hK K
        refine wpAny_ready (rs := [2]) (by kernel_rfl) (by simp) ?_
        refine AllReady.cons rfl (fun K hK => ?_) ?_
        · go_simp
          refine (check_ok D _ (HE.out.on hdr.out) HF.out H0.out).mono ?_
          rintro e w1 ⟨B, rfl, hw, f1, dd, mm⟩
          have HW := hideH hw
          have F1 := hideH f1
          have DD := hideH dd
          have MM := hideH mm
          obtain ⟨e0, e1, e2⟩ := cells3 (heap_on (w := w.drew) HDD.out hw)
          have en : w1.cell? ⟨bn, 0, none⟩ = some (.string s) := by have h := heap_on (w := w.drew) HNN.out hw; simp [World.cell?, h]
          clear hw f1 dd mm c0 c1 c2 cn
          refine hK _ _ ?_
          clear hK K
          refine wpAny_ready (rs := [4]) (by kernel_rfl) (by simp) ?_
          refine AllReady.cons rfl (fun K hK => ?_) ?_
          · go_simp
            refine (lead_ok D s B _ (HE.out.on (hdr.out.trans HW.out)).dat HF.out F1.out DD.out MM.out HS.out H1.out).mono ?_
            rintro e w2 ⟨rfl, hw2⟩
            have HW2 := hideH (bthen (hdr.out.trans HW.out) hw2)
            have bz2 : Boxed w2 bz 3 (.int .i64 0) := heap_on HZZ.out HW2.out
            have ez := bz2.cell
            have fz := bz2.frozen
            clear hw2 bz2
            refine hK _ _ ?_
            clear hK K
            refine wpAny_ready (rs := [5]) (by kernel_rfl) (by simp) ?_
            refine AllReady.cons rfl (fun K hK => ?_) ?_
            · go_simp
              refine hK _ _ ?_
              clear hK K
              refine wpAny_done (by kernel_rfl) ?_ _
              go_end0
              exact ⟨rfl, w2, HW2.out, rfl⟩
            exact AllReady.nil
          exact AllReady.nil
        exact AllReady.nil
      exact AllReady.nil
    refine AllReady.cons rfl (fun K hK => ?_) ?_
    · go_simp
      refine hK _ _ ?_
      clear hK K
      refine wpAny_ready (rs := [1]) (by kernel_rfl) (by simp) ?_
      refine AllReady.cons rfl (fun K hK => ?_) ?_
      · go_simp
        refine hK _ _ ?_
        clear hK K
        refine wpAny_ready (rs := [2]) (by kernel_rfl) (by simp) ?_
        refine AllReady.cons rfl (fun K hK => ?_) ?_
        · go_simp
          refine (check_ok D _ (HE.out.on hdr.out) HF.out H0.out).mono ?_
          rintro e w1 ⟨B, rfl, hw, f1, dd, mm⟩
          have HW := hideH hw
          have F1 := hideH f1
          have DD := hideH dd
          have MM := hideH mm
          obtain ⟨e0, e1, e2⟩ := cells3 (heap_on (w := w.drew) HDD.out hw)
          have en : w1.cell? ⟨bn, 0, none⟩ = some (.string s) := by have h := heap_on (w := w.drew) HNN.out hw; simp [World.cell?, h]
          clear hw f1 dd mm c0 c1 c2 cn
          refine hK _ _ ?_
          clear hK K
          refine wpAny_ready (rs := [4]) (by kernel_rfl) (by simp) ?_
          refine AllReady.cons rfl (fun K hK => ?_) ?_
          · go_simp
            refine (lead_ok D s B _ (HE.out.on (hdr.out.trans HW.out)).dat HF.out F1.out DD.out MM.out HS.out H1.out).mono ?_
            rintro e w2 ⟨rfl, hw2⟩
            have HW2 := hideH (bthen (hdr.out.trans HW.out) hw2)
            have bz2 : Boxed w2 bz 3 (.int .i64 0) := heap_on HZZ.out HW2.out
            have ez := bz2.cell
            have fz := bz2.frozen
            clear hw2 bz2
            refine hK _ _ ?_
            clear hK K
            refine wpAny_ready (rs := [5]) (by kernel_rfl) (by simp) ?_
            refine AllReady.cons rfl (fun K hK => ?_) ?_
            · go_simp
              refine hK _ _ ?_
              clear hK K
              refine wpAny_done (by kernel_rfl) ?_ _
              go_end0
              exact ⟨rfl, w2, HW2.out, rfl⟩
            exact AllReady.nil
          exact AllReady.nil
        exact AllReady.nil
      exact AllReady.nil
    exact AllReady.nil
  refine AllReady.cons rfl (fun K hK => ?_) ?_
  · go_simp
    refine hK _ _ ?_
    clear hK K
    refine wpAny_ready (rs := [0, 2, 3]) (by kernel_rfl) (by simp) ?_
    refine AllReady.cons rfl (fun K hK => ?_) ?_
    · go_simp
      refine hK _ _ ?_
      clear hK K
      refine wpAny_ready (rs := [2, 3]) (by kernel_rfl) (by simp) ?_
      refine AllReady.cons rfl (fun K hK => ?_) ?_
      · go_simp
        refine (check_ok D _ (HE.out.on hdr.out) HF.out H0.out).mono ?_
        rintro e w1 ⟨B, rfl, hw, f1, dd, mm⟩
        have HW := hideH hw
        have F1 := hideH f1
        have DD := hideH dd
        have MM := hideH mm
        obtain ⟨e0, e1, e2⟩ := cells3 (heap_on (w := w.drew) HDD.out hw)
        have en : w1.cell? ⟨bn, 0, none⟩ = some (.string s) := by have h := heap_on (w := w.drew) HNN.out hw; simp [World.cell?, h]
        clear hw f1 dd mm c0 c1 c2 cn
        refine hK _ _ ?_
        clear hK K
        refine wpAny_ready (rs := [3]) (by kernel_rfl) (by simp) ?_
        refine AllReady.cons rfl (fun K hK => ?_) ?_
        · go_simp
          refine hK _ _ ?_
          clear hK K
          refine wpAny_ready (rs := [4]) (by kernel_rfl) (by simp) ?_
          refine AllReady.cons rfl (fun K hK => ?_) ?_
          · go_simp
            refine (lead_ok D s B _ (HE.out.on (hdr.out.trans HW.out)).dat HF.out F1.out DD.out MM.out HS.out H1.out).mono ?_
            rintro e w2 ⟨rfl, hw2⟩
            have HW2 := hideH (bthen (hdr.out.trans HW.out) hw2)
            have bz2 : Boxed w2 bz 3 (.int .i64 0) := heap_on HZZ.out HW2.out
            have ez := bz2.cell
            have fz := bz2.frozen
            clear hw2 bz2
            refine hK _ _ ?_
            clear hK K
            refine wpAny_ready (rs := [5]) (by kernel_rfl) (by simp) ?_
            refine AllReady.cons rfl (fun K hK => ?_) ?_
            · go_simp
              refine hK _ _ ?_
              clear hK K
              refine wpAny_done (by kernel_rfl) ?_ _
              go_end0
              exact ⟨rfl, w2, HW2.out, rfl⟩
            exact AllReady.nil
          exact AllReady.nil
        exact AllReady.nil
      refine AllReady.cons rfl (fun K hK => ?_) ?_
      · go_simp
        refine hK _ _ ?_
        clear hK K
        refine wpAny_ready (rs := [2]) (by kernel_rfl) (by simp) ?_
        refine AllReady.cons rfl (fun K hK => ?_) ?_
        · go_simp
          refine (check_ok D _ (HE.out.on hdr.out) HF.out H0.out).mono ?_
          rintro e w1 ⟨B, rfl, hw, f1, dd, mm⟩
          have HW := hideH hw
          have F1 := hideH f1
          have DD := hideH dd
          have MM := hideH mm
          obtain ⟨e0, e1, e2⟩ := cells3 (heap_on (w := w.drew) HDD.out hw)
          have en : w1.cell? ⟨bn, 0, none⟩ = some (.string s) := by have h := heap_on (w := w.drew) HNN.out hw; simp [World.cell?, h]
          clear hw f1 dd mm c0 c1 c2 cn
          refine hK _ _ ?_
          clear hK K
          refine wpAny_ready (rs := [4]) (by kernel_rfl) (by simp) ?_
          refine AllReady.cons rfl (fun K hK => ?_) ?_
          · go_simp
            refine (lead_ok D s B _ (HE.out.on (hdr.out.trans HW.out)).dat HF.out F1.out DD.out MM.out HS.out H1.out).mono ?_
            rintro e w2 ⟨rfl, hw2⟩
            have HW2 := hideH (bthen (hdr.out.trans HW.out) hw2)
            have bz2 : Boxed w2 bz 3 (.int .i64 0) := heap_on HZZ.out HW2.out
            have ez := bz2.cell
            have fz := bz2.frozen
            clear hw2 bz2
            refine hK _ _ ?_
            clear hK K
            refine wpAny_ready (rs := [5]) (by kernel_rfl) (by simp) ?_
            refine AllReady.cons rfl (fun K hK => ?_) ?_
            · go_simp
              refine hK _ _ ?_
              clear hK K
              refine wpAny_done (by kernel_rfl) ?_ _
              go_end0
              exact ⟨rfl, w2, HW2.out, rfl⟩
            exact AllReady.nil
          exact AllReady.nil
        exact AllReady.nil
      exact AllReady.nil
    refine AllReady.cons rfl (fun K hK => ?_) ?_
    · go_simp
      refine (check_ok D _ (HE.out.on hdr.out) HF.out H0.out).mono ?_
      rintro e w1 ⟨B, rfl, hw, f1, dd, mm⟩
      have HW := hideH hw
      have F1 := hideH f1
      have DD := hideH dd
      have MM := hideH mm
      obtain ⟨e0, e1, e2⟩ := cells3 (heap_on (w := w.drew) HDD.out hw)
      have en : w1.cell? ⟨bn, 0, none⟩ = some (.string s) := by have h := heap_on (w := w.drew) HNN.out hw; simp [World.cell?, h]
      clear hw f1 dd mm c0 c1 c2 cn
      refine hK _ _ ?_
      clear hK K
      refine wpAny_ready (rs := [0, 3]) (by kernel_rfl) (by simp) ?_
      refine AllReady.cons rfl (fun K hK => ?_) ?_
      · go_simp
        refine hK _ _ ?_
        clear hK K
        refine wpAny_ready (rs := [3]) (by kernel_rfl) (by simp) ?_
        refine AllReady.cons rfl (fun K hK => ?_) ?_
        · go_simp
          refine hK _ _ ?_
          clear hK K
          refine wpAny_ready (rs := [4]) (by kernel_rfl) (by simp) ?_
          refine AllReady.cons rfl (fun K hK => ?_) ?_
          · go_simp
            refine (lead_ok D s B _ (HE.out.on (hdr.out.trans HW.out)).dat HF.out F1.out DD.out MM.out HS.out H1.out).mono ?_
            rintro e w2 ⟨rfl, hw2⟩
            have HW2 := hideH (bthen (hdr.out.trans HW.out) hw2)
            have bz2 : Boxed w2 bz 3 (.int .i64 0) := heap_on HZZ.out HW2.out
            have ez := bz2.cell
            have fz := bz2.frozen
            clear hw2 bz2
            refine hK _ _ ?_
            clear hK K
            refine wpAny_ready (rs := [5]) (by kernel_rfl) (by simp) ?_
            refine AllReady.cons rfl (fun K hK => ?_) ?_
            · go_simp
              refine hK _ _ ?_
              clear hK K
              refine wpAny_done (by kernel_rfl) ?_ _
              go_end0
              exact ⟨rfl, w2, HW2.out, rfl⟩
            exact AllReady.nil
          exact AllReady.nil
        exact AllReady.nil
      refine AllReady.cons rfl (fun K hK => ?_) ?_
      · go_simp
        refine hK _ _ ?_
        clear hK K
        refine wpAny_ready (rs := [0]) (by kernel_rfl) (by simp) ?_
        refine AllReady.cons rfl (fun K hK => ?_) ?_
        · go_simp
          refine hK _ _ ?_
          clear hK K
          refine wpAny_ready (rs := [4]) (by kernel_rfl) (by simp) ?_
          refine AllReady.cons rfl (fun K hK => ?_) ?_
          · go_simp
            refine (lead_ok D s B _ (HE.out.on (hdr.out.trans HW.out)).dat HF.out F1.out DD.out MM.out HS.out H1.out).mono ?_
            rintro e w2 ⟨rfl, hw2⟩
            have HW2 := hideH (bthen (hdr.out.trans HW.out) hw2)
            have bz2 : Boxed w2 bz 3 (.int .i64 0) := heap_on HZZ.out HW2.out
            have ez := bz2.cell
            have fz := bz2.frozen
            clear hw2 bz2
            refine hK _ _ ?_
            clear hK K
            refine wpAny_ready (rs := [5]) (by kernel_rfl) (by simp) ?_
            refine AllReady.cons rfl (fun K hK => ?_) ?_
            · go_simp
              refine hK _ _ ?_
              clear hK K
              refine wpAny_done (by kernel_rfl) ?_ _
              go_end0
              exact ⟨rfl, w2, HW2.out, rfl⟩
            exact AllReady.nil
          exact AllReady.nil
        exact AllReady.nil
      exact AllReady.nil
    refine AllReady.cons rfl (fun K hK => ?_) ?_
    · go_simp
      refine hK _ _ ?_
      clear hK K
      refine wpAny_ready (rs := [0, 2]) (by kernel_rfl) (by simp) ?_
      refine AllReady.cons rfl (fun K hK => ?_) ?_
      · go_simp
        refine hK _ _ ?_
        clear hK K
        refine wpAny_ready (rs := [2]) (by kernel_rfl) (by simp) ?_
        refine AllReady.cons rfl (fun K hK => ?_) ?_
        · go_simp
          refine (check_ok D _ (HE.out.on hdr.out) HF.out H0.out).mono ?_
          rintro e w1 ⟨B, rfl, hw, f1, dd, mm⟩
          have HW := hideH hw
          have F1 := hideH f1
          have DD := hideH dd
          have MM := hideH mm
          obtain ⟨e0, e1, e2⟩ := cells3 (heap_on (w := w.drew) HDD.out hw)
          have en : w1.cell? ⟨bn, 0, none⟩ = some (.string s) := by have h := heap_on (w := w.drew) HNN.out hw; simp [World.cell?, h]
          clear hw f1 dd mm c0 c1 c2 cn
          refine hK _ _ ?_
          clear hK K
          refine wpAny_ready (rs := [4]) (by kernel_rfl) (by simp) ?_
          refine AllReady.cons rfl (fun K hK => ?_) ?_
          · go_simp
            refine (lead_ok D s B _ (HE.out.on (hdr.out.trans HW.out)).dat HF.out F1.out DD.out MM.out HS.out H1.out).mono ?_
            rintro e w2 ⟨rfl, hw2⟩
            have HW2 := hideH (bthen (hdr.out.trans HW.out) hw2)
            have bz2 : Boxed w2 bz 3 (.int .i64 0) := heap_on HZZ.out HW2.out
            have ez := bz2.cell
            have fz := bz2.frozen
            clear hw2 bz2
            refine hK _ _ ?_
            clear hK K
            refine wpAny_ready (rs := [5]) (by kernel_rfl) (by simp) ?_
            refine AllReady.cons rfl (fun K hK => ?_) ?_
            · go_simp
              refine hK _ _ ?_
              clear hK K
              refine wpAny_done (by kernel_rfl) ?_ _
              go_end0
              exact ⟨rfl, w2, HW2.out, rfl⟩
            exact AllReady.nil
          exact AllReady.nil
        exact AllReady.nil
      refine AllReady.cons rfl (fun K hK => ?_) ?_
      · go_simp
        refine (check_ok D _ (HE.out.on hdr.out) HF.out H0.out).mono ?_
        rintro e w1 ⟨B, rfl, hw, f1, dd, mm⟩
        have HW := hideH hw
        have F1 := hideH f1
        have DD := hideH dd
        have MM := hideH mm
        obtain ⟨e0, e1, e2⟩ := cells3 (heap_on (w := w.drew) HDD.out hw)
        have en : w1.cell? ⟨bn, 0, none⟩ = some (.string s) := by have h := heap_on (w := w.drew) HNN.out hw; simp [World.cell?, h]
        clear hw f1 dd mm c0 c1 c2 cn
        refine hK _ _ ?_
        clear hK K
        refine wpAny_ready (rs := [0]) (by kernel_rfl) (by simp) ?_
        refine AllReady.cons rfl (fun K hK => ?_) ?_
        · go_simp
          refine hK _ _ ?_
          clear hK K
          refine wpAny_ready (rs := [4]) (by kernel_rfl) (by simp) ?_
          refine AllReady.cons rfl (fun K hK => ?_) ?_
          · go_simp
            refine (lead_ok D s B _ (HE.out.on (hdr.out.trans HW.out)).dat HF.out F1.out DD.out MM.out HS.out H1.out).mono ?_
            rintro e w2 ⟨rfl, hw2⟩
            have HW2 := hideH (bthen (hdr.out.trans HW.out) hw2)
            have bz2 : Boxed w2 bz 3 (.int .i64 0) := heap_on HZZ.out HW2.out
            have ez := bz2.cell
            have fz := bz2.frozen
            clear hw2 bz2
            refine hK _ _ ?_
            clear hK K
            refine wpAny_ready (rs := [5]) (by kernel_rfl) (by simp) ?_
            refine AllReady.cons rfl (fun K hK => ?_) ?_
            · go_simp
              refine hK _ _ ?_
              clear hK K
              refine wpAny_done (by kernel_rfl) ?_ _
              go_end0
              exact ⟨rfl, w2, HW2.out, rfl⟩
            exact AllReady.nil
          exact AllReady.nil
        exact AllReady.nil
      exact AllReady.nil
    exact AllReady.nil
  refine AllReady.cons rfl (fun K hK => ?_) ?_
  · go_simp
    refine hK _ _ ?_
    clear hK K
    refine wpAny_ready (rs := [0, 1]) (by kernel_rfl) (by simp) ?_
    refine AllReady.cons rfl (fun K hK => ?_) ?_
    · go_simp
      refine hK _ _ ?_
      clear hK K
      refine wpAny_ready (rs := [1]) (by kernel_rfl) (by simp) ?_
      refine AllReady.cons rfl (fun K hK => ?_) ?_
      · go_simp
        refine hK _ _ ?_
        clear hK K
        refine wpAny_ready (rs := [2]) (by kernel_rfl) (by simp) ?_
        refine AllReady.cons rfl (fun K hK => ?_) ?_
        · go_simp
          refine (check_ok D _ (HE.out.on hdr.out) HF.out H0.out).mono ?_
          rintro e w1 ⟨B, rfl, hw, f1, dd, mm⟩
          have HW := hideH hw
          have F1 := hideH f1
          have DD := hideH dd
          have MM := hideH mm
          obtain ⟨e0, e1, e2⟩ := cells3 (heap_on (w := w.drew) HDD.out hw)
          have en : w1.cell? ⟨bn, 0, none⟩ = some (.string s) := by have h := heap_on (w := w.drew) HNN.out hw; simp [World.cell?, h]
          clear hw f1 dd mm c0 c1 c2 cn
          refine hK _ _ ?_
          clear hK K
          refine wpAny_ready (rs := [4]) (by kernel_rfl) (by simp) ?_
          refine AllReady.cons rfl (fun K hK => ?_) ?_
          · go_simp
            refine (lead_ok D s B _ (HE.out.on (hdr.out.trans HW.out)).dat HF.out F1.out DD.out MM.out HS.out H1.out).mono ?_
            rintro e w2 ⟨rfl, hw2⟩
            have HW2 := hideH (bthen (hdr.out.trans HW.out) hw2)
            have bz2 : Boxed w2 bz 3 (.int .i64 0) := heap_on HZZ.out HW2.out
            have ez := bz2.cell
            have fz := bz2.frozen
            clear hw2 bz2
            refine hK _ _ ?_
            clear hK K
            refine wpAny_ready (rs := [5]) (by kernel_rfl) (by simp) ?_
            refine AllReady.cons rfl (fun K hK => ?_) ?_
            · go_simp
              refine hK _ _ ?_
              clear hK K
              refine wpAny_done (by kernel_rfl) ?_ _
              go_end0
              exact ⟨rfl, w2, HW2.out, rfl⟩
            exact AllReady.nil
          exact AllReady.nil
        exact AllReady.nil
      exact AllReady.nil
    refine AllReady.cons rfl (fun K hK => ?_) ?_
    · go_simp
      refine hK _ _ ?_
      clear hK K
      refine wpAny_ready (rs := [0, 2]) (by kernel_rfl) (by simp) ?_
      refine AllReady.cons rfl (fun K hK => ?_) ?_
      · go_simp
        refine hK _ _ ?_
        clear hK K
        refine wpAny_ready (rs := [2]) (by kernel_rfl) (by simp) ?_
        refine AllReady.cons rfl (fun K hK => ?_) ?_
        · go_simp
          refine (check_ok D _ (HE.out.on hdr.out) HF.out H0.out).mono ?_
          rintro e w1 ⟨B, rfl, hw, f1, dd, mm⟩
          have HW := hideH hw
          have F1 := hideH f1
          have DD := hideH dd
          have MM := hideH mm
          obtain ⟨e0, e1, e2⟩ := cells3 (heap_on (w := w.drew) HDD.out hw)
          have en : w1.cell? ⟨bn, 0, none⟩ = some (.string s) := by have h := heap_on (w := w.drew) HNN.out hw; simp [World.cell?, h]
          clear hw f1 dd mm c0 c1 c2 cn
          refine hK _ _ ?_
          clear hK K
          refine wpAny_ready (rs := [4]) (by kernel_rfl) (by simp) ?_
          refine AllReady.cons rfl (fun K hK => ?_) ?_
          · go_simp
            refine (lead_ok D s B _ (HE.out.on (hdr.out.trans HW.out)).dat HF.out F1.out DD.out MM.out HS.out H1.out).mono ?_
            rintro e w2 ⟨rfl, hw2⟩
            have HW2 := hideH (bthen (hdr.out.trans HW.out) hw2)
            have bz2 : Boxed w2 bz 3 (.int .i64 0) := heap_on HZZ.out HW2.out
            have ez := bz2.cell
            have fz := bz2.frozen
            clear hw2 bz2
            refine hK _ _ ?_
            clear hK K
            refine wpAny_ready (rs := [5]) (by kernel_rfl) (by simp) ?_
            refine AllReady.cons rfl (fun K hK => ?_) ?_
            · go_simp
              refine hK _ _ ?_
              clear hK K
              refine wpAny_done (by kernel_rfl) ?_ _
              go_end0
              exact ⟨rfl, w2, HW2.out, rfl⟩
            exact AllReady.nil
          exact AllReady.nil
        exact AllReady.nil
      refine AllReady.cons rfl (fun K hK => ?_) ?_
      · go_simp
        refine (check_ok D _ (HE.out.on hdr.out) HF.out H0.out).mono ?_
        rintro e w1 ⟨B, rfl, hw, f1, dd, mm⟩
        have HW := hideH hw
        have F1 := hideH f1
        have DD := hideH dd
        have MM := hideH mm
        obtain ⟨e0, e1, e2⟩ := cells3 (heap_on (w := w.drew) HDD.out hw)
        have en : w1.cell? ⟨bn, 0, none⟩ = some (.string s) := by have h := heap_on (w := w.drew) HNN.out hw; simp [World.cell?, h]
        clear hw f1 dd mm c0 c1 c2 cn
        refine hK _ _ ?_
        clear hK K
        refine wpAny_ready (rs := [0]) (by kernel_rfl) (by simp) ?_
        refine AllReady.cons rfl (fun K hK => ?_) ?_
        · go_simp
          refine hK _ _ ?_
          clear hK K
          refine wpAny_ready (rs := [4]) (by kernel_rfl) (by simp) ?_
          refine AllReady.cons rfl (fun K hK => ?_) ?_
          · go_simp
            refine (lead_ok D s B _ (HE.out.on (hdr.out.trans HW.out)).dat HF.out F1.out DD.out MM.out HS.out H1.out).mono ?_
            rintro e w2 ⟨rfl, hw2⟩
            have HW2 := hideH (bthen (hdr.out.trans HW.out) hw2)
            have bz2 : Boxed w2 bz 3 (.int .i64 0) := heap_on HZZ.out HW2.out
            have ez := bz2.cell
            have fz := bz2.frozen
            clear hw2 bz2
            refine hK _ _ ?_
            clear hK K
            refine wpAny_ready (rs := [5]) (by kernel_rfl) (by simp) ?_
            refine AllReady.cons rfl (fun K hK => ?_) ?_
            · go_simp
              refine hK _ _ ?_
              clear hK K
              refine wpAny_done (by kernel_rfl) ?_ _
              go_end0
              exact ⟨rfl, w2, HW2.out, rfl⟩
            exact AllReady.nil
          exact AllReady.nil
        exact AllReady.nil
      exact AllReady.nil
    exact AllReady.nil
  exact AllReady.nil
end Go.Proofs.YtfjjdicgekgbeaaGreatDoor

/- The contract of data.Zone. -/
namespace Go.Proofs.YtfjjdicgekgbeaaGreatDoor
open Go Go.RowKit
set_option linter.unusedVariables false

theorem enters_Zone1 (args : Array Value) : ∀ w, (callFunc 109 args).run Tryz.prog w = .ok (.enter 109 args) w := fun w => enters_of Tryz.func109 (by kernel_rfl) rfl args w
/-- Zone's own literal -/
theorem Zone1_c (D : Dt) (s : ByteArray) (bd bn bz : Nat) (w : World) (hd : w.heap[bd]? = some (.cells #[.slice D.sa D.ns D.sc, .slice D.za D.nz D.zc, .slice D.la D.nl D.lc] 26)) (hn : w.heap[bn]? = some (.cells #[.string s] 9)) (hz : Boxed w bz 3 (.int .i64 0))
    (hE : Env w D) (hF : D.fits) (hs : s.size ≤ maxLen) :
    Calls Tryz.prog 109 #[.pointer (some ⟨bd, 0, none⟩), .pointer (some ⟨bn, 0, none⟩), .pointer (some ⟨bz, 0, none⟩)] w fun e w' => e = left (zonE D s) ∧ But bz w w' ∧ Boxed w' bz 3 (.int .i64 (zonR D s)) := by
  by_cases h0 : chkE D = 0
  · by_cases h1 : (leadK D (D.nl + 1) s).2 = 0
    · have e1 : zonE D s = 0 := by unfold zonE; rw [if_pos h0, h1]
      have e2 : zonR D s = (leadK D (D.nl + 1) s).1 := by unfold zonR; rw [if_pos h0, if_pos h1]
      rw [e1, e2]
      refine (Zone1_ok D s bd bn bz w hd hn hz hE hF hs h0 h1).mono ?_
      rintro e w' ⟨rfl, w2, hw, rfl⟩
      exact ⟨rfl, But.set hw _, (show Boxed w2 bz 3 (.int .i64 0) from heap_on hz hw).set _⟩
    · have e1 : zonE D s = (leadK D (D.nl + 1) s).2 := by unfold zonE; rw [if_pos h0]
      have e2 : zonR D s = 0 := by unfold zonR; rw [if_pos h0, if_neg h1]
      rw [e1, e2, left_no h1]
      refine (Zone1_lead D s bd bn bz w hd hn hz hE hF hs h0 h1).mono ?_
      rintro e w' ⟨rfl, hw⟩
      exact ⟨rfl, But.of hw, heap_on hz hw⟩
  · have e1 : zonE D s = chkE D := by unfold zonE; rw [if_neg h0]
    have e2 : zonR D s = 0 := by unfold zonR; rw [if_neg h0]
    rw [e1, e2, left_no h0]
    refine (Zone1_no D s bd bn bz w hd hn hz hE hF hs h0).mono ?_
    rintro e w' ⟨rfl, hw⟩
    exact ⟨rfl, But.of hw, heap_on hz hw⟩
set_option maxRecDepth 100000 in
theorem DZone_c (D : Dt) (s : ByteArray) (w : World) (hE : Env w D) (hF : D.fits) (hs : s.size ≤ maxLen) : Calls Tryz.prog 66 #[D.v, .string s] w fun e w' => e = .returned (.tuple #[.int .i64 (zonR D s), .int .i64 (zonE D s)]) ∧ Below w.heap.size w w' := by
  have hmf : ∀ (fn : Fn) (first cap : Array Value) (w : World), (Instr.makeFunc fn first cap).run Tryz.prog w = .ok (.func fn first cap) w := fun _ _ _ _ => rfl
  obtain ⟨w0, hw0⟩ : ∃ w0, w0 = ((w.alloc (.cells #[.slice D.sa D.ns D.sc, .slice D.za D.nz D.zc, .slice D.la D.nl D.lc] 26)).alloc (.cells #[.string s] 9)).alloc (.cells #[.int .i64 0] 3) := ⟨_, rfl⟩
  have hsz : w0.heap.size = w.heap.size + 3 := by rw [hw0]; simp
  have hb0 : Below w.heap.size w w0 := by rw [hw0]; exact (((Below.refl _ w).alloc (Nat.le_refl _) _).alloc (by simp) _).alloc (by simp; omega) _
  have hd0 : w0.heap[w.heap.size]? = some (.cells #[.slice D.sa D.ns D.sc, .slice D.za D.nz D.zc, .slice D.la D.nl D.lc] 26) := by
    rw [hw0, Below.heap_alloc _ _ _ (by simp; omega), Below.heap_alloc _ _ _ (by simp)]; exact World.alloc_heap_new _ _
  have hn0 : w0.heap[w.heap.size + 1]? = some (.cells #[.string s] 9) := by
    rw [hw0, Below.heap_alloc _ _ _ (by simp)]
    have := World.alloc_heap_new (w.alloc (.cells #[.slice D.sa D.ns D.sc, .slice D.za D.nz D.zc, .slice D.la D.nl D.lc] 26)) (.cells #[.string s] 9)
    rwa [World.size_alloc] at this
  have hz0 : Boxed w0 (w.heap.size + 2) 3 (.int .i64 0) := by
    have := Boxed.new ((w.alloc (.cells #[.slice D.sa D.ns D.sc, .slice D.za D.nz D.zc, .slice D.la D.nl D.lc] 26)).alloc (.cells #[.string s] 9)) 3 (.int .i64 0)
    rw [World.size_alloc, World.size_alloc] at this
    rw [hw0]; exact this
  have hb1 : Below w0.heap.size w0 (w0.alloc (.cells #[.int .i64 0] 32)) := (Below.refl _ w0).alloc (Nat.le_refl _) _
  have E1 := hE.on (bthen hb0 hb1)
  have hcaught := hideH (caught_c 109 #[.pointer (some ⟨w.heap.size, 0, none⟩), .pointer (some ⟨w.heap.size + 1, 0, none⟩), .pointer (some ⟨w.heap.size + 2, 0, none⟩)] (zonE D s)
    (fun w1 => But (w.heap.size + 2) (w0.alloc (.cells #[.int .i64 0] 32)) w1 ∧ Boxed w1 (w.heap.size + 2) 3 (.int .i64 (zonR D s))) w0 (enters_Zone1 _)
    (fun w1 h => (h.1.block _ (by simp) (by omega)).trans (Boxed.new w0 32 (.int .i64 0)))
    (Zone1_c D s _ _ _ _ (heap_on hd0 hb1) (heap_on hn0 hb1) (heap_on hz0 hb1) E1 hF hs))
  have HW0 := hideH hw0
  have HB0 := hideH hb0
  clear hd0 hn0 hz0 hb1 E1 hE hF hs hb0
  subst hw0
  go_enter Tryz.func66, Tryz.ntmps66
  go_wp2_with fail
  refine hcaught.out.mono ?_
  rintro e w2 ⟨rfl, w1, ⟨hbut, hbx⟩, rfl⟩
  have hB1 : Below w.heap.size w w1 := (HB0.out.trans (((Below.refl _ _).alloc (Nat.le_refl _) (.cells #[.int .i64 0] 32)).mono HB0.out.size)).trans ⟨hbut.os, hbut.tape, hbut.output, hbut.size, fun k hk => hbut.block k (by simp; omega) (by omega)⟩
  rw [hsz]
  have hB2 := hB1.setCell (p := ⟨w.heap.size + 3, 0, none⟩) (Nat.le_add_right _ _) (.int .i64 (zonE D s))
  have hc2 := (show Boxed (w1.setCell ⟨w.heap.size + 3, 0, none⟩ (.int .i64 (zonE D s))) (w.heap.size + 2) 3 (.int .i64 (zonR D s)) from (Below.heap_setCell _ ⟨w.heap.size + 3, 0, none⟩ _ _ (by simp)).trans hbx).cell
  generalize w1.setCell ⟨w.heap.size + 3, 0, none⟩ (.int .i64 (zonE D s)) = w3 at hB2 hc2 ⊢
  have HB3 := hideH hB2
  clear hB1 hB2 hbut hbx hcaught HW0 HB0 hsz
  go_wp2_with fail
  go_ret2
  exact ⟨rfl, HB3.out⟩
end Go.Proofs.YtfjjdicgekgbeaaGreatDoor

/- What right data give: a zone's name leads to it, a link leads where its To leads, and that is a zone. -/
namespace Go.Proofs.YtfjjdicgekgbeaaGreatDoor
open Go Go.RowKit Go.Maps
set_option linter.unusedVariables false

theorem chk_parts {D : Dt} (h : chkE D = 0) : few1 D ∧ dist (nms D) (D.nz + D.nl) ∧ lnk1 D ∧ lnk2 D = 0 := by
  unfold chkE at h
  split at h
  · rename_i hf
    split at h
    · split at h
      · split at h
        · rename_i hd
          split at h
          · split at h
            · split at h
              · split at h
                · rename_i h1
                  exact ⟨(few_all hf).1, hd, h1, h⟩
                · cases h
              · cases h
            · cases h
          · rename_i hr
            exact absurd h hr
        · cases h
      · cases h
    · cases h
  · cases h
theorem find_range {p : Nat → Bool} {j : Nat} : ∀ {n : Nat}, j < n → p j = true → (∀ i, i < j → p i = false) → (List.range n).find? p = some j
  | 0, h, _, _ => absurd h (Nat.not_lt_zero _)
  | n + 1, h, hp, ha => by
    rw [List.range_succ, List.find?_append]
    rcases Nat.lt_or_ge j n with hl | hg
    · rw [find_range hl hp ha]; rfl
    · obtain rfl : j = n := by omega
      rw [List.find?_eq_none.2 (fun x hx => by rw [ha x (List.mem_range.1 hx)]; decide)]
      simp [hp]
theorem idx_at {D : Dt} (hd : dist (nms D) (D.nz + D.nl)) {j : Nat} (hj : j < D.nz + D.nl) : idx D (nms D j) = some j := by
  unfold idx
  refine find_range hj (by simp) fun i hi => ?_
  exact beq_eq_false_iff_ne.2 fun e => hd j hj i hi e.symm
theorem zone_leads {D : Dt} (h : chkE D = 0) {j : Nat} (hj : j < D.nz) (k : Nat) : leadK D (k + 1) (D.zs j).nm = ((j : Int), 0) := by
  have e := idx_at (chk_parts h).2.1 (j := j) (by omega)
  have hn : nms D j = (D.zs j).nm := by unfold nms; rw [if_pos hj]
  rw [hn] at e
  unfold leadK
  simp only [e, if_pos hj]
theorem lead_more {D : Dt} : ∀ (k : Nat) (s : ByteArray), (leadK D k s).2 = 0 → leadK D (k + 1) s = leadK D k s
  | 0, s, h => by unfold leadK at h; exact absurd h (by decide)
  | k + 1, s, h => by
    cases e : idx D s with
    | none => rw [leadK.eq_2] at h; simp only [e] at h; exact absurd h (by decide)
    | some j =>
      by_cases hj : j < D.nz
      · unfold leadK; simp only [e, if_pos hj]
      · have e1 : leadK D (k + 1) s = leadK D k (D.ls (j - D.nz)).to := by rw [leadK.eq_2]; simp only [e, if_neg hj]
        have e2 : leadK D (k + 1 + 1) s = leadK D (k + 1) (D.ls (j - D.nz)).to := by rw [leadK.eq_2]; simp only [e, if_neg hj]
        rw [e1] at h
        rw [e1, e2]
        exact lead_more k _ h
theorem lead_in {D : Dt} : ∀ (k : Nat) (s : ByteArray), (leadK D k s).2 = 0 → 0 ≤ (leadK D k s).1 ∧ (leadK D k s).1 < D.nz
  | 0, s, h => by unfold leadK at h; exact absurd h (by decide)
  | k + 1, s, h => by
    cases e : idx D s with
    | none => rw [leadK.eq_2] at h; simp only [e] at h; exact absurd h (by decide)
    | some j =>
      by_cases hj : j < D.nz
      · have e1 : leadK D (k + 1) s = ((j : Int), 0) := by rw [leadK.eq_2]; simp only [e, if_pos hj]
        rw [e1]
        constructor <;> simp <;> omega
      · have e1 : leadK D (k + 1) s = leadK D k (D.ls (j - D.nz)).to := by rw [leadK.eq_2]; simp only [e, if_neg hj]
        rw [e1] at h ⊢
        exact lead_in k _ h
/-- a link leads to a zone, and where its To leads -/
theorem link_leads {D : Dt} (h : chkE D = 0) {j : Nat} (hj : j < D.nl) : (leadK D (D.nl + 1) (D.ls j).nm).2 = 0 ∧ leadK D (D.nl + 1) (D.ls j).to = leadK D (D.nl + 1) (D.ls j).nm := by
  obtain ⟨_, hd, _, h2⟩ := chk_parts h
  have h0 : (leadK D (D.nl + 1) (D.ls j).nm).2 = 0 := fstE_all h2 j hj
  refine ⟨h0, ?_⟩
  have e := idx_at hd (j := D.nz + j) (by omega)
  have hn : nms D (D.nz + j) = (D.ls j).nm := by unfold nms; rw [if_neg (by omega)]; congr 1; congr 1; omega
  rw [hn] at e
  have e1 : leadK D (D.nl + 1) (D.ls j).nm = leadK D D.nl (D.ls j).to := by
    rw [leadK.eq_2]
    simp only [e, if_neg (show ¬ D.nz + j < D.nz by omega)]
    congr 1; congr 1; congr 1; omega
  rw [e1] at h0 ⊢
  exact lead_more _ _ h0
theorem zone_told {D : Dt} (h : chkE D = 0) {j : Nat} (hj : j < D.nz) : zonR D (D.zs j).nm = j ∧ zonE D (D.zs j).nm = 0 := by
  have e := zone_leads h hj D.nl
  unfold zonR zonE
  rw [if_pos h, if_pos h, e]
  exact ⟨rfl, rfl⟩
theorem link_told {D : Dt} (h : chkE D = 0) {j : Nat} (hj : j < D.nl) : zonE D (D.ls j).nm = 0 ∧ zonE D (D.ls j).to = 0 ∧ zonR D (D.ls j).to = zonR D (D.ls j).nm ∧ 0 ≤ zonR D (D.ls j).nm ∧ zonR D (D.ls j).nm < D.nz := by
  obtain ⟨h0, e⟩ := link_leads h hj
  have h1 : (leadK D (D.nl + 1) (D.ls j).to).2 = 0 := by rw [e]; exact h0
  have hi := lead_in _ _ h0
  unfold zonR zonE
  rw [if_pos h, if_pos h, if_pos h, if_pos h, if_pos h0, if_pos h1, e]
  exact ⟨h0, h0, rfl, hi.1, hi.2⟩
end Go.Proofs.YtfjjdicgekgbeaaGreatDoor

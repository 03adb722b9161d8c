/- Contracts of package data: Zone. -/
import Derived.Test.YtdffopkljomipaaGreatDoorDataM
import Derived.Deep.RegionWith
namespace Go.Proofs.YtdffopkljomipaaGreatDoor
open Go Go.RowKit
set_option linter.unusedVariables false

/-- what data.Zone answers -/
def zonR (D : Dt) (s : ByteArray) : Int := if chkE D = 0 then (if (leadK D (D.nl + 1) s).2 = 0 then (leadK D (D.nl + 1) s).1 else 0) else 0
def zonE (D : Dt) (s : ByteArray) : Int := if chkE D = 0 then (leadK D (D.nl + 1) s).2 else chkE D
theorem check_ok (D : Dt) (w : World) (hE : Env w D) (hF : D.fits) (h0 : chkE D = 0) : Calls Tryz.prog 30 #[D.v] w fun e w' => ∃ B, e = .returned (.map (some B)) ∧ Below w.heap.size w w' ∧ few1 D ∧ dist (nms D) (D.nz + D.nl) ∧ MAt w' B (nms D) (D.nz + D.nl) := by
  refine (check_c D w hE hF).mono ?_
  rintro e w' ⟨hw, ⟨_, h1, h2, B, rfl, h3⟩ | ⟨h, _⟩⟩
  · exact ⟨B, rfl, hw, h1, h2, h3⟩
  · exact absurd h0 h
theorem check_no (D : Dt) (w : World) (hE : Env w D) (hF : D.fits) (h0 : chkE D ≠ 0) : Calls Tryz.prog 30 #[D.v] w fun e w' => e = pan (chkE D) ∧ Below w.heap.size w w' := by
  refine (check_c D w hE hF).mono ?_
  rintro e w' ⟨hw, ⟨h, _⟩ | ⟨_, rfl⟩⟩
  · exact absurd h h0
  · exact ⟨rfl, hw⟩
/-- all but one block lies as it lay -/
structure But (b : Nat) (w w' : World) : Prop where
  os : w'.os = w.os
  tape : w'.tape = w.tape
  output : w'.output = w.output
  size : w.heap.size ≤ w'.heap.size
  block : ∀ k, k < w.heap.size → k ≠ b → w'.heap[k]? = w.heap[k]?
theorem But.of {b : Nat} {w w' : World} (h : Below w.heap.size w w') : But b w w' := ⟨h.os, h.tape, h.output, h.size, fun k hk _ => h.block k hk⟩
theorem But.set {b : Nat} {w w' : World} (h : Below w.heap.size w w') (v : Value) : But b w (w'.setCell ⟨b, 0, none⟩ v) :=
  ⟨h.os, h.tape, h.output, by have := h.size; simpa [World.setCell] using this, fun k hk hne => (Below.heap_setCell _ _ _ _ hne).trans (h.block k hk)⟩

theorem lead_ok (D : Dt) (s : ByteArray) (B : Nat) (w : World) (hD : DAt w D) (hF : D.fits) (h1 : few1 D) (hd : dist (nms D) (D.nz + D.nl)) (hM : MAt w B (nms D) (D.nz + D.nl)) (hs : s.size ≤ maxLen) (h0 : (leadK D (D.nl + 1) s).2 = 0) :
    Calls Tryz.prog 29 #[D.v, .map (some B), .string s] w fun e w' => e = .returned (.int .i64 (leadK D (D.nl + 1) s).1) ∧ Below w.heap.size w w' := by
  refine (lead_c D s B w hD hF h1 hd hM hs).mono ?_
  rintro e w' ⟨rfl, hw⟩
  exact ⟨leadX_ok h0, hw⟩
theorem lead_no (D : Dt) (s : ByteArray) (B : Nat) (w : World) (hD : DAt w D) (hF : D.fits) (h1 : few1 D) (hd : dist (nms D) (D.nz + D.nl)) (hM : MAt w B (nms D) (D.nz + D.nl)) (hs : s.size ≤ maxLen) (h0 : (leadK D (D.nl + 1) s).2 ≠ 0) :
    Calls Tryz.prog 29 #[D.v, .map (some B), .string s] w fun e w' => e = pan (leadK D (D.nl + 1) s).2 ∧ Below w.heap.size w w' := by
  refine (lead_c D s B w hD hF h1 hd hM hs).mono ?_
  rintro e w' ⟨rfl, hw⟩
  exact ⟨leadX_no h0, hw⟩

set_option maxRecDepth 100000 in
set_option maxHeartbeats 1000000 in
theorem Zone1_no (D : Dt) (s : ByteArray) (bd bn bz : Nat) (w : World) (hd : w.heap[bd]? = some (.cells #[.slice D.sa D.ns D.sc, .slice D.za D.nz D.zc, .slice D.la D.nl D.lc] 26)) (hn : w.heap[bn]? = some (.cells #[.string s] 9)) (hz : Boxed w bz 3 (.int .i64 0))
    (hE : Env w D) (hF : D.fits) (hs : s.size ≤ maxLen) (h0 : chkE D ≠ 0) :
    Calls Tryz.prog 28 #[.pointer (some ⟨bd, 0, none⟩), .pointer (some ⟨bn, 0, none⟩), .pointer (some ⟨bz, 0, none⟩)] w fun e w' => e = pan (chkE D) ∧ Below w.heap.size w w' := by
  obtain ⟨c0, c1, c2⟩ := cells3 hd
  have cn : w.cell? ⟨bn, 0, none⟩ = some (.string s) := by simp [World.cell?, hn]
  have HDD := hideH hd
  have HNN := hideH hn
  have HZZ := hideH hz
  have HE := hideH hE
  have HF := hideH hF
  have HS := hideH hs
  have H0 := hideH h0
  have hdr := hideH (Below.refl w.heap.size w).drew
  clear hd hn hz hE hF h0 hs
  go_enter Tryz.func28, Tryz.ntmps28
  refine wp_region_any (by kernel_rfl) ?_
  change wpAny _ _ _ _ _ _ _ (World.drew _)
  refine wpAny_ready (rs := [0, 1, 3]) (by kernel_rfl) (by simp) ?_
  refine AllReady.cons rfl (fun K hK => ?_) ?_
  · go_simp
    refine hK _ _ ?_
    clear hK K
    refine wpAny_ready (rs := [1, 3]) (by kernel_rfl) (by simp) ?_
    refine AllReady.cons rfl (fun K hK => ?_) ?_
    · go_simp
      refine hK _ _ ?_
      clear hK K
      refine wpAny_ready (rs := [2, 3]) (by kernel_rfl) (by simp) ?_
      refine AllReady.cons rfl (fun K hK => ?_) ?_
      · go_simp
        refine (check_no D _ (HE.out.on hdr.out) HF.out H0.out).mono ?_
        rintro e w1 ⟨rfl, hw⟩
        exact ⟨rfl, rfl, hdr.out.trans hw⟩
      refine AllReady.cons rfl (fun K hK => ?_) ?_
      · go_simp
        refine hK _ _ ?_
        clear hK K
        refine wpAny_ready (rs := [2]) (by kernel_rfl) (by simp) ?_
        refine AllReady.cons rfl (fun K hK => ?_) ?_
        · go_simp
          refine (check_no D _ (HE.out.on hdr.out) HF.out H0.out).mono ?_
          rintro e w1 ⟨rfl, hw⟩
          exact ⟨rfl, rfl, hdr.out.trans hw⟩
        exact AllReady.nil
      exact AllReady.nil
    refine AllReady.cons rfl (fun K hK => ?_) ?_
    · go_simp
      refine hK _ _ ?_
      clear hK K
      refine wpAny_ready (rs := [1]) (by kernel_rfl) (by simp) ?_
      refine AllReady.cons rfl (fun K hK => ?_) ?_
      · go_simp
        refine hK _ _ ?_
        clear hK K
        refine wpAny_ready (rs := [2]) (by kernel_rfl) (by simp) ?_
        refine AllReady.cons rfl (fun K hK => ?_) ?_
        · go_simp
          refine (check_no D _ (HE.out.on hdr.out) HF.out H0.out).mono ?_
          rintro e w1 ⟨rfl, hw⟩
          exact ⟨rfl, rfl, hdr.out.trans hw⟩
        exact AllReady.nil
      exact AllReady.nil
    exact AllReady.nil
  refine AllReady.cons rfl (fun K hK => ?_) ?_
  · go_simp
    refine hK _ _ ?_
    clear hK K
    refine wpAny_ready (rs := [0, 2, 3]) (by kernel_rfl) (by simp) ?_
    refine AllReady.cons rfl (fun K hK => ?_) ?_
    · go_simp
      refine hK _ _ ?_
      clear hK K
      refine wpAny_ready (rs := [2, 3]) (by kernel_rfl) (by simp) ?_
      refine AllReady.cons rfl (fun K hK => ?_) ?_
      · go_simp
        refine (check_no D _ (HE.out.on hdr.out) HF.out H0.out).mono ?_
        rintro e w1 ⟨rfl, hw⟩
        exact ⟨rfl, rfl, hdr.out.trans hw⟩
      refine AllReady.cons rfl (fun K hK => ?_) ?_
      · go_simp
        refine hK _ _ ?_
        clear hK K
        refine wpAny_ready (rs := [2]) (by kernel_rfl) (by simp) ?_
        refine AllReady.cons rfl (fun K hK => ?_) ?_
        · go_simp
          refine (check_no D _ (HE.out.on hdr.out) HF.out H0.out).mono ?_
          rintro e w1 ⟨rfl, hw⟩
          exact ⟨rfl, rfl, hdr.out.trans hw⟩
        exact AllReady.nil
      exact AllReady.nil
    refine AllReady.cons rfl (fun K hK => ?_) ?_
    · go_simp
      refine (check_no D _ (HE.out.on hdr.out) HF.out H0.out).mono ?_
      rintro e w1 ⟨rfl, hw⟩
      exact ⟨rfl, rfl, hdr.out.trans hw⟩
    refine AllReady.cons rfl (fun K hK => ?_) ?_
    · go_simp
      refine hK _ _ ?_
      clear hK K
      refine wpAny_ready (rs := [0, 2]) (by kernel_rfl) (by simp) ?_
      refine AllReady.cons rfl (fun K hK => ?_) ?_
      · go_simp
        refine hK _ _ ?_
        clear hK K
        refine wpAny_ready (rs := [2]) (by kernel_rfl) (by simp) ?_
        refine AllReady.cons rfl (fun K hK => ?_) ?_
        · go_simp
          refine (check_no D _ (HE.out.on hdr.out) HF.out H0.out).mono ?_
          rintro e w1 ⟨rfl, hw⟩
          exact ⟨rfl, rfl, hdr.out.trans hw⟩
        exact AllReady.nil
      refine AllReady.cons rfl (fun K hK => ?_) ?_
      · go_simp
        refine (check_no D _ (HE.out.on hdr.out) HF.out H0.out).mono ?_
        rintro e w1 ⟨rfl, hw⟩
        exact ⟨rfl, rfl, hdr.out.trans hw⟩
      exact AllReady.nil
    exact AllReady.nil
  refine AllReady.cons rfl (fun K hK => ?_) ?_
  · go_simp
    refine hK _ _ ?_
    clear hK K
    refine wpAny_ready (rs := [0, 1]) (by kernel_rfl) (by simp) ?_
    refine AllReady.cons rfl (fun K hK => ?_) ?_
    · go_simp
      refine hK _ _ ?_
      clear hK K
      refine wpAny_ready (rs := [1]) (by kernel_rfl) (by simp) ?_
      refine AllReady.cons rfl (fun K hK => ?_) ?_
      · go_simp
        refine hK _ _ ?_
        clear hK K
        refine wpAny_ready (rs := [2]) (by kernel_rfl) (by simp) ?_
        refine AllReady.cons rfl (fun K hK => ?_) ?_
        · go_simp
          refine (check_no D _ (HE.out.on hdr.out) HF.out H0.out).mono ?_
          rintro e w1 ⟨rfl, hw⟩
          exact ⟨rfl, rfl, hdr.out.trans hw⟩
        exact AllReady.nil
      exact AllReady.nil
    refine AllReady.cons rfl (fun K hK => ?_) ?_
    · go_simp
      refine hK _ _ ?_
      clear hK K
      refine wpAny_ready (rs := [0, 2]) (by kernel_rfl) (by simp) ?_
      refine AllReady.cons rfl (fun K hK => ?_) ?_
      · go_simp
        refine hK _ _ ?_
        clear hK K
        refine wpAny_ready (rs := [2]) (by kernel_rfl) (by simp) ?_
        refine AllReady.cons rfl (fun K hK => ?_) ?_
        · go_simp
          refine (check_no D _ (HE.out.on hdr.out) HF.out H0.out).mono ?_
          rintro e w1 ⟨rfl, hw⟩
          exact ⟨rfl, rfl, hdr.out.trans hw⟩
        exact AllReady.nil
      refine AllReady.cons rfl (fun K hK => ?_) ?_
      · go_simp
        refine (check_no D _ (HE.out.on hdr.out) HF.out H0.out).mono ?_
        rintro e w1 ⟨rfl, hw⟩
        exact ⟨rfl, rfl, hdr.out.trans hw⟩
      exact AllReady.nil
    exact AllReady.nil
  exact AllReady.nil
end Go.Proofs.YtdffopkljomipaaGreatDoor

/- A line is taken: a link. -/
import Derived.Test.YtbpdbggojgijiaaGreatDoorSourceO
namespace Go.Proofs.YtbpdbggojgijiaaGreatDoor.Src
open Go Go.RowKit Go.Maps
set_option linter.unusedVariables false
set_option linter.unusedSimpArgs false

theorem infoS_link : (Tryz.prog.info? 54).map (fun i => (i.zero, i.size, i.bytes)) = some (some (.agg #[.string ⟨#[]⟩, .string ⟨#[]⟩]), 2, 32) := by kernel_rfl
set_option maxHeartbeats 8000000 in
set_option maxRecDepth 100000 in
theorem take_link_c (B db : Nat) (l : By) (w : World) (s1 : Option Addr) (n c1 : Nat) (u1 v2 : Value) (xs : List Value) (hd : w.heap[db]? = some (.cells #[u1, v2, .slice s1 n c1] 26)) (hB : B ≤ w.heap.size) (hX : ∀ v : World, Below B w v → EVs v) (hBd : B ≤ db) (ho : w.ownsRow B 54 2 (.slice s1 n c1) n xs) (hn : n ≤ 1000000) (hl : l.length < 4294967281) (hw : hdW l = wLink) :
    Calls Tryz.prog 46 #[.pointer (some ⟨db, 0, none⟩), .agg #[.string ⟨l.toArray⟩]] w fun e w' => e = .returned (.tuple #[]) ∧ ∃ a2 c2, w'.heap[db]? = some (.cells #[u1, v2, .slice a2 (n + 1) c2] 26) ∧ w'.ownsRow B 54 2 (.slice a2 (n + 1) c2) (n + 1) (xs ++ [.string ⟨(wN 1 l).toArray⟩, .string ⟨(wN 2 l).toArray⟩]) ∧ Below B w w' ∧ KT [54, 26, 96] w w' := by
  have hq := (Below.refl _ w).alloc (Nat.le_refl _) (.cells #[.string ⟨l.toArray⟩] 96)
  have hr : RsA w.heap.size l (w.alloc (.cells #[.string ⟨l.toArray⟩] 96)) := World.alloc_heap_new _ _
  have hdl : db < w.heap.size := (Array.getElem?_eq_some_iff.1 hd).1
  have hbq : Below B w (w.alloc (.cells #[.string ⟨l.toArray⟩] 96)) := hq.mono hB
  have HC := hideS (rtext_c w.heap.size l _ hr (hX _ hbq).2.2 hl)
  rw [hw] at HC
  obtain ⟨T, hT⟩ : ∃ T : By, T = wN 1 l := ⟨_, rfl⟩
  have HC2 : Hid (∀ v : World, RsA w.heap.size (tlW l) v → Below B w v → Calls Tryz.prog 71 #[.pointer (some ⟨w.heap.size, 0, none⟩)] v fun e w' => e = .returned (.string ⟨T.toArray⟩) ∧ RsA w.heap.size (tlW (tlW l)) w' ∧ Bq w.heap.size v w') := fun v hv hb => by
    rw [hT]
    exact rtext_c w.heap.size (tlW l) v hv (hX v hb).2.2 (by have := tlW_len l; omega)
  obtain ⟨T2, hT2⟩ : ∃ T : By, T = wN 2 l := ⟨_, rfl⟩
  have HC3 : Hid (∀ v : World, RsA w.heap.size (tlW (tlW l)) v → Below B w v → Calls Tryz.prog 71 #[.pointer (some ⟨w.heap.size, 0, none⟩)] v fun e w' => e = .returned (.string ⟨T2.toArray⟩) ∧ RsA w.heap.size (tlW (tlW (tlW l))) w' ∧ Bq w.heap.size v w') := fun v hv hb => by
    rw [hT2]
    exact rtext_c w.heap.size (tlW (tlW l)) v hv (hX v hb).2.2 (by have := tlW_len l; have := tlW_len (tlW l); omega)
  have H0 : Hid (w.heap[db]? = some (.cells #[u1, v2, .slice s1 n c1] 26)) := hd
  have HO := hideS ho
  have HQ := hideS hq
  have HBQ := hideS hbq
  have HR := hideS hr
  rw [← hT, ← hT2]
  clear hd hX ho hw hT hT2 hq hbq hr
  go_enter Tryz.func46, Tryz.ntmps46
  go_wp2_with (go_at_call 71; refine HC.out.mono ?_; rintro e v1 ⟨rfl, r1, b1⟩; refine unhid ?_)
  have R1 := hideS r1
  have B1 := hideS b1
  clear r1 b1 HC
  refine hideS ?_
  go_upto_region 15 with fail
  have hsz1 : w.heap.size + 1 ≤ v1.heap.size := by have := B1.out.size; simpa using this
  have D1 : Hid (v1.heap[db]? = some (.cells #[u1, v2, .slice s1 n c1] 26)) := (B1.out.block db (by simp; omega) (by omega)).trans (heap_on H0.out HQ.out)
  have W1 : Hid (Below B w v1) := HBQ.out.trans (B1.out.below (by omega) (by simp; omega))
  have O1 : Hid (v1.ownsRow B 54 2 (.slice s1 n c1) n xs) := kt_own (ts := [96]) ((kt_on HQ.out).trans (kt_bq B1.out HR.out (by decide))) HO.out (by decide)
  have K1 : Hid (KT [54, 26, 96] w v1) := (kt_on HQ.out).trans (kt_bq B1.out HR.out (by decide))
  obtain ⟨i2, hi2, hx0, hx1, hx2⟩ := info_parts infoS_link
  have hS0 : Hid (∀ v : World, v.heap[db]? = some (.cells #[u1, v2, .slice s1 n c1] 26) → v.cell? ⟨db, 2, none⟩ = some (.slice s1 n c1)) := fun v hv => (cells3 hv).2.2
  refine region_last2 (S := fun v => v.cell? ⟨db, 2, none⟩ = some (.slice s1 n c1)) (by kernel_rfl) (by kernel_rfl) (hS0.out v1.drew D1.out) (fun hHeld => ?_)
  refine wpAnyH_take (i := 0) (v := ?va0) rfl (by kernel_rfl) (by kernel_rfl) (by kernel_rfl) (fun _ _ _ h => h) (Or.inl ⟨by rfl, ?ya0⟩) hHeld ?ra0
  case ya0 => intro w hSw; (try dsimp only at hSw); go_simp; (try with_reducible rfl)
  try simp only [Act.put, List.setIfInBounds_toArray, List.set_cons_zero, List.set_cons_succ]
  refine wpAnyH_take (i := 1) (v := ?va1) rfl (by kernel_rfl) (by kernel_rfl) (by kernel_rfl) (fun _ _ _ h => h) (Or.inl ⟨by rfl, ?ya1⟩) hHeld ?ra1
  case ya1 => intro w hSw; (try dsimp only at hSw); go_simp; (try with_reducible rfl)
  try simp only [Act.put, List.setIfInBounds_toArray, List.set_cons_zero, List.set_cons_succ]
  refine wpAnyH_take (i := 2) (v := ?va2) rfl (by kernel_rfl) (by kernel_rfl) (by kernel_rfl) (fun _ _ _ h => h) (Or.inl ⟨by rfl, ?ya2⟩) hHeld ?ra2
  case ya2 => intro w hSw; (try dsimp only at hSw); go_simp; (try with_reducible rfl)
  try simp only [Act.put, List.setIfInBounds_toArray, List.set_cons_zero, List.set_cons_succ]
  refine wpAnyH_take (i := 3) (v := ?va3) rfl (by kernel_rfl) (by kernel_rfl) (by kernel_rfl) (fun _ _ _ h => h) (Or.inl ⟨by rfl, ?ya3⟩) hHeld ?ra3
  case ya3 => intro w hSw; (try dsimp only at hSw); go_simp; (try with_reducible rfl)
  try simp only [Act.put, List.setIfInBounds_toArray, List.set_cons_zero, List.set_cons_succ]
  refine wpAnyH_take (i := 4) (v := ?va4) rfl (by kernel_rfl) (by kernel_rfl) (by kernel_rfl) (fun _ _ _ h => h) (Or.inl ⟨by rfl, ?ya4⟩) hHeld ?ra4
  case ya4 => intro w hSw; (try dsimp only at hSw); go_simp; (try with_reducible rfl)
  try simp only [Act.put, List.setIfInBounds_toArray, List.set_cons_zero, List.set_cons_succ]
  refine wpAnyH_ready (rs := [5]) (by kernel_rfl) (by simp) ?_
  refine AllReadyH.cons (i := 5) rfl (fun K hK => ?_) AllReadyH.nil
  go_simp
  refine (HC2.out _ (by exact R1.out) (by exact W1.out.drew)).mono ?_
  rintro e u2 ⟨rfl, r2, b2⟩
  have D2 : Hid (u2.heap[db]? = some (.cells #[u1, v2, .slice s1 n c1] 26)) := (b2.block db (by simp; omega) (by omega)).trans D1.out
  have W2 : Hid (Below B w u2) := W1.out.drew.trans (b2.below (by omega) (by simp; omega))
  have K2 : Hid (KT [54, 26, 96] v1.drew u2) := kt_bq b2 R1.out (by decide)
  have O2 : Hid (u2.ownsRow B 54 2 (.slice s1 n c1) n xs) := kt_own (ts := [96]) (kt_bq b2 R1.out (by decide)) (show v1.drew.ownsRow B 54 2 (.slice s1 n c1) n xs from O1.out) (by decide)
  have R2 := hideS r2
  clear r2 b2
  refine hK.out _ _ ?s5 (fun hHeld => ?_)
  case s5 => exact hS0.out _ D2.out
  clear hK K
  try simp only [Act.put, List.setIfInBounds_toArray, List.set_cons_zero, List.set_cons_succ]
  refine wpAnyH_ready (rs := [6]) (by kernel_rfl) (by simp) ?_
  refine AllReadyH.cons (i := 6) rfl (fun K hK => ?_) AllReadyH.nil
  go_simp
  refine (HC3.out _ R2.out W2.out).mono ?_
  rintro e u3 ⟨rfl, r3, b3⟩
  have hsz2 : w.heap.size < u2.heap.size := (Array.getElem?_eq_some_iff.1 (show u2.heap[w.heap.size]? = _ from R2.out)).1
  have D5 : Hid (u3.heap[db]? = some (.cells #[u1, v2, .slice s1 n c1] 26)) := (b3.block db (by omega) (by omega)).trans D2.out
  have W5 : Hid (Below B w u3) := W2.out.trans (b3.below (by omega) (by omega))
  have K6 : Hid (KT [54, 26, 96] v1.drew u3) := K2.out.trans (kt_bq b3 R2.out (by decide))
  have O5 : Hid (u3.ownsRow B 54 2 (.slice s1 n c1) n xs) := kt_own (ts := [96]) (kt_bq b3 R2.out (by decide)) O2.out (by decide)
  refine hK.out _ _ ?s6 (fun hHeld => ?_)
  case s6 => exact hS0.out _ D5.out
  clear hK K r3 b3
  try simp only [Act.put, List.setIfInBounds_toArray, List.set_cons_zero, List.set_cons_succ]
  refine wpAnyH_take (i := 7) (v := ?va7) rfl (by kernel_rfl) (by kernel_rfl) (by kernel_rfl) (fun _ _ _ h => h) (Or.inl ⟨by rfl, ?ya7⟩) hHeld ?ra7
  case ya7 => intro w hSw; (try dsimp only at hSw); go_simp; (try with_reducible rfl)
  try simp only [Act.put, List.setIfInBounds_toArray, List.set_cons_zero, List.set_cons_succ]
  refine wpAnyH_ready (rs := [8]) (by kernel_rfl) (by simp) ?_
  refine AllReadyH.cons (i := 8) rfl (fun K hK => ?_) AllReadyH.nil
  go_simp
  have ba := (Below.refl _ u3).alloc (Nat.le_refl _) (.cells #[.string ⟨T.toArray⟩, .string ⟨T2.toArray⟩] 54)
  have D3 := hideS (heap_on D5.out ba)
  have W3 : Hid (Below B w (u3.alloc (.cells #[.string ⟨T.toArray⟩, .string ⟨T2.toArray⟩] 54))) := W5.out.trans (ba.mono (by have := W5.out.size; omega))
  have O3 := hideS (own_on O5.out ba)
  have K3 : Hid (KT [54, 26, 96] u3 (u3.alloc (.cells #[.string ⟨T.toArray⟩, .string ⟨T2.toArray⟩] 54))) := kt_on ba
  clear ba
  refine hK.out _ _ ?s8 (fun hHeld => ?_)
  case s8 => exact hS0.out _ D3.out
  clear hK K
  try simp only [Act.put, List.setIfInBounds_toArray, List.set_cons_zero, List.set_cons_succ]
  refine wpAnyH_ready (rs := [9]) (by kernel_rfl) (by simp) ?_
  refine AllReadyH.cons (i := 9) rfl (fun K hK => ?_) AllReadyH.nil
  refine more2 _ rfl _ _ 24 rfl B 54 i2 _ 32 Tryz.underlying24 hi2 hx0 hx1 hx2 (by decide) rfl _ n xs rfl O3.out _ (.string ⟨T.toArray⟩) (.string ⟨T2.toArray⟩) rfl (World.alloc_heap_new u3 _) rfl rfl hn (by have := W5.out.size; simp; omega) ?_
  intro a2 c2 u4 O4 K4 B4
  have D4 : Hid (u4.heap[db]? = some (.cells #[u1, v2, .slice s1 n c1] 26)) := K4.out _ _ _ _ D3.out (by decide)
  have W4 := hideS (W3.out.trans B4.out)
  have K5 : Hid (KT [54, 26, 96] w u4) := ((K1.out.trans (b := v1) (KT.trans (b := u3) K6.out K3.out))).trans (kt_b K4.out (by decide))
  refine hK.out _ _ ?s9 (fun hHeld => ?_)
  case s9 => exact hS0.out _ D4.out
  clear hK K
  try simp only [Act.put, List.setIfInBounds_toArray, List.set_cons_zero, List.set_cons_succ]
  refine wpAnyH_take (i := 10) (v := ?va10) rfl (by kernel_rfl) (by kernel_rfl) (by kernel_rfl) (fun _ _ _ h => h) (Or.inl ⟨by rfl, ?ya10⟩) hHeld ?ra10
  case ya10 => intro w hSw; (try dsimp only at hSw); go_simp; (try with_reducible rfl)
  try simp only [Act.put, List.setIfInBounds_toArray, List.set_cons_zero, List.set_cons_succ]
  refine wpAnyH_take (i := 11) (v := ?va11) rfl (by kernel_rfl) (by kernel_rfl) (by kernel_rfl) (fun _ _ _ h => h) (Or.inl ⟨by rfl, ?ya11⟩) hHeld ?ra11
  case ya11 => intro w hSw; (try dsimp only at hSw); go_simp; (try with_reducible rfl)
  try simp only [Act.put, List.setIfInBounds_toArray, List.set_cons_zero, List.set_cons_succ]
  refine wpAnyH_done (by kernel_rfl) ?_ _
  have ow := (cells3 D4.out).2.2
  have of : u4.frozen? ⟨db, 2, none⟩ = false := by simp [World.frozen?, D4.out]
  refine qlast_n ?_
  refine wpOp_step rfl (fun K hK => ?_)
  go_simp
  refine hK _ _ ?_
  clear hK K
  go_wp2_with fail
  go_end0
  have KD : KT [26] u4 (u4.setCell ⟨db, 2, none⟩ (.slice a2 (n + 1) c2)) := kt_set D4.out (by decide) _ _
  refine ⟨rfl, a2, c2, ?_, kt_own KD O4.out (by decide), W4.out.setCell (p := ⟨db, 2, none⟩) hBd _, K5.out.trans (kt_set D4.out (by decide) _ _)⟩
  simp [World.setCell, Array.getElem?_modify, D4.out]
end Go.Proofs.YtbpdbggojgijiaaGreatDoor.Src

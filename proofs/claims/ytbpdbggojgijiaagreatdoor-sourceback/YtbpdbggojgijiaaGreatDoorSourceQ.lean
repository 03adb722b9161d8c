/- A line is taken: a rule. -/
import Derived.Test.YtbpdbggojgijiaaGreatDoorSourceP
namespace Go.Proofs.YtbpdbggojgijiaaGreatDoor.Src
open Go Go.RowKit Go.Maps
set_option linter.unusedVariables false
set_option linter.unusedSimpArgs false

/-- all blocks but those of some types, and but one, are as they were -/
def KO (o : Option Nat) (ts : List TypeId) (w w' : World) : Prop := ∀ (b : Nat) (cs : Array Value) (ty : TypeId) (fr : Nat × Nat), w.heap[b]? = some (.cells cs ty fr) → ty ∉ ts → some b ≠ o → w'.heap[b]? = some (.cells cs ty fr)
theorem KO.trans {o : Option Nat} {ts : List TypeId} {a b c : World} (h : KO o ts a b) (k : KO o ts b c) : KO o ts a c := fun x cs ty fr hx h1 h2 => k x cs ty fr (h x cs ty fr hx h1 h2) h1 h2
theorem ko_kt {o : Option Nat} {ts : List TypeId} {a b : World} (h : KT ts a b) : KO o ts a b := fun x cs ty fr hx h1 h2 => h x cs ty fr hx h1
theorem kt_more {ts ts' : List TypeId} {a b : World} (h : KT ts a b) (hm : ∀ t, t ∈ ts → t ∈ ts') : KT ts' a b := fun x cs ty fr hx h1 => h x cs ty fr hx (fun e => h1 (hm _ e))
theorem ko_grown {ts : List TypeId} {w w' : World} {o : Option Nat} (hg : w.grownBy w' o) : KO o ts w w' := fun b cs ty fr hb h1 h2 => (hg.block b (Array.getElem?_eq_some_iff.1 hb).1 h2).trans hb
theorem own_put {w : World} {B n S j c : Nat} {e : TypeId} {g : Nat} {xs : List Value} (h : w.ownsRow B e S (.slice (some ⟨g, 0, none⟩) n c) n xs) (u : Value) : (w.setCell ⟨g, j, none⟩ u).ownsRow B e S (.slice (some ⟨g, 0, none⟩) n c) n (xs.set j u) := by
  refine ⟨by simpa using h.1, ?_⟩
  rcases h.2 with ⟨hv, _⟩ | ⟨g', cap, cur, hv, h2, h3, h4, h5, h6, h7⟩
  · cases hv
  · refine .inr ⟨g', cap, cur.setIfInBounds j u, hv, h2, ?_, h4, h5, by simpa using h6, ?_⟩
    · obtain rfl : g = g' := by
        injection hv with h8 h9 h10
        injection h8 with h8
        injection h8
      simp [World.setCell, Array.getElem?_modify, h3]
    · rw [← h7, Array.toList_setIfInBounds, List.take_set]
theorem own_block {w : World} {B n S c : Nat} {e : TypeId} {g : Nat} {xs : List Value} (h : w.ownsRow B e S (.slice (some ⟨g, 0, none⟩) n c) n xs) : ∃ cur, w.heap[g]? = some (.cells cur e (0, 0)) ∧ B ≤ g := by
  rcases h.2 with ⟨hv, _⟩ | ⟨g', cap, cur, hv, h2, h3, _⟩
  · cases hv
  · obtain rfl : g = g' := by
      injection hv with h8 h9 h10
      injection h8 with h8
      injection h8
    exact ⟨cur, h3, h2⟩
theorem infoS_rule : (Tryz.prog.info? 65).map (fun i => (i.zero, i.size, i.bytes)) = some (some (.agg #[.int .i64 0, .int .i64 0, .int .i64 0, .int .i64 0, .int .i64 0, .int .i64 0, .int .i64 0, .int .i64 0, .string ⟨#[]⟩]), 9, 80) := by kernel_rfl
set_option maxHeartbeats 8000000 in
set_option maxRecDepth 100000 in
theorem take_rule_c (B db g m : Nat) (l : By) (w : World) (c1 : Nat) (v2 v3 : Value) (xs ys : List Value) (ra : Option Addr) (rn rc : Nat) (hd : w.heap[db]? = some (.cells #[.slice (some ⟨g, 0, none⟩) (m + 1) c1, v2, v3] 26)) (hB : B ≤ w.heap.size) (hX : ∀ v : World, Below B w v → EVs v) (hBd : B ≤ db) (ho : w.ownsRow B 47 2 (.slice (some ⟨g, 0, none⟩) (m + 1) c1) (m + 1) xs) (hx : xs[m * 2 + 1]? = some (.slice ra rn rc)) (hr : w.ownsRow B 65 9 (.slice ra rn rc) rn ys) (hn : m ≤ 1000000) (hrn : rn ≤ 1000000) (hl : l.length < 4294967281) (hw : hdW l = wRule) (R : List Value) (hR : R = [.int .i64 (numA (wN 1 l)), .int .i64 (numA (wN 2 l)), .int .i64 (numA (wN 3 l)), .int .i64 (numA (wN 4 l)), .int .i64 (numA (wN 5 l)), .int .i64 (numA (wN 6 l)), .int .i64 (numA (wN 7 l)), .int .i64 (numA (wN 8 l)), .string ⟨(if wN 9 l = [45] then [] else wN 9 l).toArray⟩]) :
    Calls Tryz.prog 46 #[.pointer (some ⟨db, 0, none⟩), .agg #[.string ⟨l.toArray⟩]] w fun e w' => e = .returned (.tuple #[]) ∧ ∃ a2 c2, w'.heap[db]? = some (.cells #[.slice (some ⟨g, 0, none⟩) (m + 1) c1, v2, v3] 26) ∧ w'.ownsRow B 47 2 (.slice (some ⟨g, 0, none⟩) (m + 1) c1) (m + 1) (xs.set (m * 2 + 1) (.slice a2 (rn + 1) c2)) ∧ w'.ownsRow B 65 9 (.slice a2 (rn + 1) c2) (rn + 1) (ys ++ R) ∧ Below B w w' ∧ KO (Value.slice ra rn rc).ownBlock [47, 96] w w' ∧ ((Value.slice a2 (rn + 1) c2).ownBlock = (Value.slice ra rn rc).ownBlock ∨ ∃ k, (Value.slice a2 (rn + 1) c2).ownBlock = some k ∧ w.heap.size ≤ k) := by
  have hq := (Below.refl _ w).alloc (Nat.le_refl _) (.cells #[.string ⟨l.toArray⟩] 96)
  have hrs : RsA w.heap.size l (w.alloc (.cells #[.string ⟨l.toArray⟩] 96)) := World.alloc_heap_new _ _
  have hdl : db < w.heap.size := (Array.getElem?_eq_some_iff.1 hd).1
  have hbq : Below B w (w.alloc (.cells #[.string ⟨l.toArray⟩] 96)) := hq.mono hB
  have HC := hideS (rtext_c w.heap.size l _ hrs (hX _ hbq).2.2 hl)
  rw [hw] at HC
  have HC2 : Hid (∀ v : World, RsA w.heap.size (tlW l) v → Below B w v → Calls Tryz.prog 72 #[.pointer (some ⟨w.heap.size, 0, none⟩)] v fun e w' => e = .returned (.agg R.toArray) ∧ (∃ l', RsA w.heap.size l' w') ∧ Bq w.heap.size v w') := fun v hv hb => by
    have := rrule_c B w.heap.size (tlW l) v hv (fun u hu => hX u (hb.trans hu)) hB (by have := tlW_len l; omega)
    rw [hR]
    exact this
  have H0 : Hid (w.heap[db]? = some (.cells #[.slice (some ⟨g, 0, none⟩) (m + 1) c1, v2, v3] 26)) := hd
  have HO := hideS ho
  have HRr := hideS hr
  have HQ := hideS hq
  have HBQ := hideS hbq
  have HR := hideS hrs
  have HXs := hideS hx
  obtain ⟨r0, r1, r2, r3, r4, r5, r6, r7, r8, hR9⟩ : ∃ r0 r1 r2 r3 r4 r5 r6 r7 r8, R = [.int .i64 r0, .int .i64 r1, .int .i64 r2, .int .i64 r3, .int .i64 r4, .int .i64 r5, .int .i64 r6, .int .i64 r7, .string r8] := ⟨_, _, _, _, _, _, _, _, _, hR⟩
  clear hR
  subst hR9
  clear hd hX ho hw hq hbq hrs hr hx
  go_enter Tryz.func46, Tryz.ntmps46
  go_wp2_with (go_at_call 71; refine HC.out.mono ?_; rintro e v1 ⟨rfl, t1, b1⟩; refine unhid ?_)
  have R1 := hideS t1
  have B1 := hideS b1
  clear t1 b1 HC
  refine hideS ?_
  have hsz1 : w.heap.size + 1 ≤ v1.heap.size := by have := B1.out.size; simpa using this
  have D1 : Hid (v1.heap[db]? = some (.cells #[.slice (some ⟨g, 0, none⟩) (m + 1) c1, v2, v3] 26)) := (B1.out.block db (by simp; omega) (by omega)).trans (heap_on H0.out HQ.out)
  have d1 := (cells3 D1.out).1
  have hk0 : (m : Int) + 1 - 1 = m := by omega
  go_upto_region 7 with fail
  clear d1
  have W1 : Hid (Below B w v1) := HBQ.out.trans (B1.out.below (by omega) (by simp; omega))
  have KR1 : Hid (KT [96] w v1) := (kt_on HQ.out).trans (kt_bq B1.out HR.out (by decide))
  have O1 : Hid (v1.ownsRow B 47 2 (.slice (some ⟨g, 0, none⟩) (m + 1) c1) (m + 1) xs) := kt_own KR1.out HO.out (by decide)
  have P1 : Hid (v1.ownsRow B 65 9 (.slice ra rn rc) rn ys) := kt_own KR1.out HRr.out (by decide)
  obtain ⟨i2, hi2, hx0, hx1, hx2⟩ := info_parts infoS_rule
  have j0 : decide ((m : Int) < 0) = false := by simp
  have j1 : decide (m + 1 ≤ m) = false := by simp
  have j2 : (m : Int) < (m : Int) + 1 := by omega
  have j3 : m < m + 1 := by omega
  have hS0 : Hid (∀ v : World, v.heap[db]? = some (.cells #[.slice (some ⟨g, 0, none⟩) (m + 1) c1, v2, v3] 26) → v.ownsRow B 47 2 (.slice (some ⟨g, 0, none⟩) (m + 1) c1) (m + 1) xs → v.cell? ⟨db, 0, none⟩ = some (.slice (some ⟨g, 0, none⟩) (m + 1) c1) ∧ v.cell? ⟨g, m * 2 + 1, none⟩ = some (.slice ra rn rc)) := fun v hv ho => ⟨(cells3 hv).1, by
    have := ho.cells (g := g) rfl _ _ HXs.out
    simpa [Addr.add] using this⟩
  refine region_last2 (S := fun v => v.cell? ⟨db, 0, none⟩ = some (.slice (some ⟨g, 0, none⟩) (m + 1) c1) ∧ v.cell? ⟨g, m * 2 + 1, none⟩ = some (.slice ra rn rc)) (by kernel_rfl) (by kernel_rfl) (hS0.out v1.drew D1.out O1.out) (fun hHeld => ?_)
  refine wpAnyH_take (i := 0) (v := ?va0) rfl (by kernel_rfl) (by kernel_rfl) (by kernel_rfl) (fun _ _ _ h => h) (Or.inl ⟨by rfl, ?ya0⟩) hHeld ?ra0
  case ya0 => intro w hSw; (try dsimp only at hSw); obtain ⟨hS1, hS2⟩ := hSw; go_simp; (try with_reducible rfl)
  try simp only [Act.put, List.setIfInBounds_toArray, List.set_cons_zero, List.set_cons_succ]
  refine wpAnyH_take (i := 1) (v := ?va1) rfl (by kernel_rfl) (by kernel_rfl) (by kernel_rfl) (fun _ _ _ h => h) (Or.inl ⟨by rfl, ?ya1⟩) hHeld ?ra1
  case ya1 => intro w hSw; (try dsimp only at hSw); obtain ⟨hS1, hS2⟩ := hSw; go_simp; (try with_reducible rfl)
  try simp only [Act.put, List.setIfInBounds_toArray, List.set_cons_zero, List.set_cons_succ]
  refine wpAnyH_take (i := 2) (v := ?va2) rfl (by kernel_rfl) (by kernel_rfl) (by kernel_rfl) (fun _ _ _ h => h) (Or.inl ⟨by rfl, ?ya2⟩) hHeld ?ra2
  case ya2 => intro w hSw; (try dsimp only at hSw); obtain ⟨hS1, hS2⟩ := hSw; go_simp; (try with_reducible rfl)
  try simp only [Act.put, List.setIfInBounds_toArray, List.set_cons_zero, List.set_cons_succ]
  refine wpAnyH_take (i := 3) (v := ?va3) rfl (by kernel_rfl) (by kernel_rfl) (by kernel_rfl) (fun _ _ _ h => h) (Or.inl ⟨by rfl, ?ya3⟩) hHeld ?ra3
  case ya3 => intro w hSw; (try dsimp only at hSw); obtain ⟨hS1, hS2⟩ := hSw; go_simp; (try with_reducible rfl)
  try simp only [Act.put, List.setIfInBounds_toArray, List.set_cons_zero, List.set_cons_succ]
  refine wpAnyH_take (i := 4) (v := ?va4) rfl (by kernel_rfl) (by kernel_rfl) (by kernel_rfl) (fun _ _ _ h => h) (Or.inl ⟨by rfl, ?ya4⟩) hHeld ?ra4
  case ya4 => intro w hSw; (try dsimp only at hSw); obtain ⟨hS1, hS2⟩ := hSw; go_simp; (try with_reducible rfl)
  try simp only [Act.put, List.setIfInBounds_toArray, List.set_cons_zero, List.set_cons_succ]
  refine wpAnyH_take (i := 5) (v := ?va5) rfl (by kernel_rfl) (by kernel_rfl) (by kernel_rfl) (fun _ _ _ h => h) (Or.inl ⟨by rfl, ?ya5⟩) hHeld ?ra5
  case ya5 => intro w hSw; (try dsimp only at hSw); obtain ⟨hS1, hS2⟩ := hSw; go_simp; (try with_reducible rfl)
  try simp only [Act.put, List.setIfInBounds_toArray, List.set_cons_zero, List.set_cons_succ]
  refine wpAnyH_take (i := 6) (v := ?va6) rfl (by kernel_rfl) (by kernel_rfl) (by kernel_rfl) (fun _ _ _ h => h) (Or.inl ⟨by rfl, ?ya6⟩) hHeld ?ra6
  case ya6 => intro w hSw; (try dsimp only at hSw); obtain ⟨hS1, hS2⟩ := hSw; go_simp; (try with_reducible rfl)
  try simp only [Act.put, List.setIfInBounds_toArray, List.set_cons_zero, List.set_cons_succ]
  refine wpAnyH_take (i := 7) (v := ?va7) rfl (by kernel_rfl) (by kernel_rfl) (by kernel_rfl) (fun _ _ _ h => h) (Or.inl ⟨by rfl, ?ya7⟩) hHeld ?ra7
  case ya7 => intro w hSw; (try dsimp only at hSw); obtain ⟨hS1, hS2⟩ := hSw; go_simp; (try with_reducible rfl)
  try simp only [Act.put, List.setIfInBounds_toArray, List.set_cons_zero, List.set_cons_succ]
  refine wpAnyH_take (i := 8) (v := ?va8) rfl (by kernel_rfl) (by kernel_rfl) (by kernel_rfl) (fun _ _ _ h => h) (Or.inl ⟨by rfl, ?ya8⟩) hHeld ?ra8
  case ya8 => intro w hSw; (try dsimp only at hSw); obtain ⟨hS1, hS2⟩ := hSw; go_simp; (try with_reducible rfl)
  try simp only [Act.put, List.setIfInBounds_toArray, List.set_cons_zero, List.set_cons_succ]
  refine wpAnyH_take (i := 9) (v := ?va9) rfl (by kernel_rfl) (by kernel_rfl) (by kernel_rfl) (fun _ _ _ h => h) (Or.inl ⟨by rfl, ?ya9⟩) hHeld ?ra9
  case ya9 => intro w hSw; (try dsimp only at hSw); obtain ⟨hS1, hS2⟩ := hSw; go_simp; (try with_reducible rfl)
  try simp only [Act.put, List.setIfInBounds_toArray, List.set_cons_zero, List.set_cons_succ]
  refine wpAnyH_take (i := 10) (v := ?va10) rfl (by kernel_rfl) (by kernel_rfl) (by kernel_rfl) (fun _ _ _ h => h) (Or.inl ⟨by rfl, ?ya10⟩) hHeld ?ra10
  case ya10 => intro w hSw; (try dsimp only at hSw); obtain ⟨hS1, hS2⟩ := hSw; go_simp; (try with_reducible rfl)
  try simp only [Act.put, List.setIfInBounds_toArray, List.set_cons_zero, List.set_cons_succ]
  refine wpAnyH_take (i := 11) (v := ?va11) rfl (by kernel_rfl) (by kernel_rfl) (by kernel_rfl) (fun _ _ _ h => h) (Or.inl ⟨by rfl, ?ya11⟩) hHeld ?ra11
  case ya11 => intro w hSw; (try dsimp only at hSw); obtain ⟨hS1, hS2⟩ := hSw; go_simp; (try with_reducible rfl)
  try simp only [Act.put, List.setIfInBounds_toArray, List.set_cons_zero, List.set_cons_succ]
  refine wpAnyH_take (i := 12) (v := ?va12) rfl (by kernel_rfl) (by kernel_rfl) (by kernel_rfl) (fun _ _ _ h => h) (Or.inl ⟨by rfl, ?ya12⟩) hHeld ?ra12
  case ya12 => intro w hSw; (try dsimp only at hSw); obtain ⟨hS1, hS2⟩ := hSw; go_simp; (try with_reducible rfl)
  try simp only [Act.put, List.setIfInBounds_toArray, List.set_cons_zero, List.set_cons_succ]
  refine wpAnyH_ready (rs := [13]) (by kernel_rfl) (by simp) ?_
  refine AllReadyH.cons (i := 13) rfl (fun K hK => ?_) AllReadyH.nil
  go_simp
  refine (HC2.out _ (by exact R1.out) (by exact W1.out.drew)).mono ?_
  rintro e u2 ⟨rfl, ⟨l2, t2⟩, b2⟩
  have D2 : Hid (u2.heap[db]? = some (.cells #[.slice (some ⟨g, 0, none⟩) (m + 1) c1, v2, v3] 26)) := (b2.block db (by simp; omega) (by omega)).trans D1.out
  have W2 : Hid (Below B w u2) := W1.out.drew.trans (b2.below (by omega) (by simp; omega))
  have KR2 : Hid (KT [96] v1.drew u2) := kt_bq b2 R1.out (by decide)
  have O2 : Hid (u2.ownsRow B 47 2 (.slice (some ⟨g, 0, none⟩) (m + 1) c1) (m + 1) xs) := kt_own KR2.out (show v1.drew.ownsRow B 47 2 (.slice (some ⟨g, 0, none⟩) (m + 1) c1) (m + 1) xs from O1.out) (by decide)
  have P2 : Hid (u2.ownsRow B 65 9 (.slice ra rn rc) rn ys) := kt_own KR2.out (show v1.drew.ownsRow B 65 9 (.slice ra rn rc) rn ys from P1.out) (by decide)
  clear t2 b2
  refine hK.out _ _ ?s13 (fun hHeld => ?_)
  case s13 => exact hS0.out _ D2.out O2.out
  clear hK K
  try simp only [Act.put, List.setIfInBounds_toArray, List.set_cons_zero, List.set_cons_succ]
  refine wpAnyH_ready (rs := [14]) (by kernel_rfl) (by simp) ?_
  refine AllReadyH.cons (i := 14) rfl (fun K hK => ?_) AllReadyH.nil
  go_simp
  have ba := (Below.refl _ u2).alloc (Nat.le_refl _) (.cells #[.int .i64 r0, .int .i64 r1, .int .i64 r2, .int .i64 r3, .int .i64 r4, .int .i64 r5, .int .i64 r6, .int .i64 r7, .string r8] 65)
  have D3 := hideS (heap_on D2.out ba)
  have W3 : Hid (Below B w (u2.alloc (.cells #[.int .i64 r0, .int .i64 r1, .int .i64 r2, .int .i64 r3, .int .i64 r4, .int .i64 r5, .int .i64 r6, .int .i64 r7, .string r8] 65))) := W2.out.trans (ba.mono (by have := W2.out.size; omega))
  have O3 := hideS (own_on O2.out ba)
  have P3 := hideS (own_on P2.out ba)
  have K3 : Hid (KO (Value.slice ra rn rc).ownBlock [47, 96] w (u2.alloc (.cells #[.int .i64 r0, .int .i64 r1, .int .i64 r2, .int .i64 r3, .int .i64 r4, .int .i64 r5, .int .i64 r6, .int .i64 r7, .string r8] 65))) := ko_kt (kt_more (KT.trans (b := u2) (KT.trans (b := v1.drew) KR1.out KR2.out) (kt_on ba)) (fun t ht => List.mem_cons_of_mem _ ht))
  clear ba
  refine hK.out _ _ ?s14 (fun hHeld => ?_)
  case s14 => exact hS0.out _ D3.out O3.out
  clear hK K
  try simp only [Act.put, List.setIfInBounds_toArray, List.set_cons_zero, List.set_cons_succ]
  refine wpAnyH_ready (rs := [15]) (by kernel_rfl) (by simp) ?_
  refine AllReadyH.cons (i := 15) rfl (fun K hK => ?_) AllReadyH.nil
  refine step_append_row _ rfl _ _ 45 rfl B 65 i2 _ 9 80 Tryz.underlying45 hi2 hx0 hx1 hx2 rfl (by decide) _ rn ys rfl P3.out _ 1 1 [.int .i64 r0, .int .i64 r1, .int .i64 r2, .int .i64 r3, .int .i64 r4, .int .i64 r5, .int .i64 r6, .int .i64 r7, .string r8] rfl rfl (.inr ⟨_, rfl, World.news_of_block (World.alloc_heap_new u2 _)⟩) (by intro u hu; simp at hu; rcases hu with rfl | rfl | rfl | rfl | rfl | rfl | rfl | rfl | rfl <;> rfl) (by unfold maxLen; omega) (by omega) (by have := W2.out.size; simp; omega) ?_
  intro vr u4 O4 G4 hat
  obtain ⟨a2, c2, rfl⟩ := ownS_sl O4
  have K4 : Hid (KO (Value.slice ra rn rc).ownBlock [47, 96] w u4) := K3.out.trans (ko_grown G4)
  have KB := hideS (keptB_grown P3.out G4)
  have D4 : Hid (u4.heap[db]? = some (.cells #[.slice (some ⟨g, 0, none⟩) (m + 1) c1, v2, v3] 26)) := KB.out _ _ _ _ D3.out (by decide)
  have S4 : Hid (u4.ownsRow B 47 2 (.slice (some ⟨g, 0, none⟩) (m + 1) c1) (m + 1) xs) := keptB_own KB.out O3.out (by decide)
  have W4 : Hid (Below B w u4) := W3.out.grown G4 (by have := W2.out.size; simp; omega) fun k hk => (P3.out.lt k hk).1
  have HAT : Hid ((Value.slice a2 (rn + 1) c2).ownBlock = (Value.slice ra rn rc).ownBlock ∨ ∃ k, (Value.slice a2 (rn + 1) c2).ownBlock = some k ∧ w.heap.size ≤ k) := hat.imp id fun h => ⟨_, h, by have := W2.out.size; simp; omega⟩
  have P4 := hideS O4
  clear O4 G4
  refine hK.out _ _ ?s15 (fun hHeld => ?_)
  case s15 => exact hS0.out _ D4.out S4.out
  clear hK K
  try simp only [Act.put, List.setIfInBounds_toArray, List.set_cons_zero, List.set_cons_succ]
  refine wpAnyH_take (i := 16) (v := ?va16) rfl (by kernel_rfl) (by kernel_rfl) (by kernel_rfl) (fun _ _ _ h => h) (Or.inl ⟨by rfl, ?ya16⟩) hHeld ?ra16
  case ya16 => intro w hSw; (try dsimp only at hSw); obtain ⟨hS1, hS2⟩ := hSw; go_simp; (try with_reducible rfl)
  try simp only [Act.put, List.setIfInBounds_toArray, List.set_cons_zero, List.set_cons_succ]
  refine wpAnyH_take (i := 17) (v := ?va17) rfl (by kernel_rfl) (by kernel_rfl) (by kernel_rfl) (fun _ _ _ h => h) (Or.inl ⟨by rfl, ?ya17⟩) hHeld ?ra17
  case ya17 => intro w hSw; (try dsimp only at hSw); obtain ⟨hS1, hS2⟩ := hSw; go_simp; (try with_reducible rfl)
  try simp only [Act.put, List.setIfInBounds_toArray, List.set_cons_zero, List.set_cons_succ]
  refine wpAnyH_done (by kernel_rfl) ?_ _
  obtain ⟨ow0, ow⟩ := hS0.out u4 D4.out S4.out
  obtain ⟨cur, hcur, hBg⟩ := own_block S4.out
  have of : u4.frozen? ⟨g, m * 2 + 1, none⟩ = false := Lib.frozen_of_heap hcur _
  refine qlast_n ?_
  refine wpOp_step rfl (fun K hK => ?_)
  go_simp
  refine hK _ _ ?_
  clear hK K
  go_wp2_with fail
  go_end0
  have KD : KT [47] u4 (u4.setCell ⟨g, m * 2 + 1, none⟩ (.slice a2 (rn + 1) c2)) := kt_set hcur (by decide) _ _
  exact ⟨rfl, a2, c2, KD _ _ _ _ D4.out (by decide), own_put S4.out _, kt_own KD P4.out (by decide), W4.out.setCell (p := ⟨g, m * 2 + 1, none⟩) hBg _, K4.out.trans (ko_kt (kt_set hcur (by decide) _ _)), HAT.out⟩
end Go.Proofs.YtbpdbggojgijiaaGreatDoor.Src

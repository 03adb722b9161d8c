/- A line is taken: what adds nothing. -/
import Derived.Test.YtbpdbggojgijiaaGreatDoorSourceR
namespace Go.Proofs.YtbpdbggojgijiaaGreatDoor.Src
open Go Go.RowKit Go.Maps
set_option linter.unusedVariables false
set_option linter.unusedSimpArgs false

set_option maxHeartbeats 4000000 in
set_option maxRecDepth 100000 in
theorem take_none_c (B db : Nat) (l : By) (w : World) (hB : B ≤ w.heap.size) (hX : ∀ v : World, Below B w v → EVs v) (hl : l.length < 4294967281)
    (k1 : hdW l ≠ wSet) (k2 : hdW l ≠ wRule) (k3 : hdW l ≠ wZone) (k4 : hdW l ≠ wEra) (k5 : hdW l ≠ wLink) :
    Calls Tryz.prog 46 #[.pointer (some ⟨db, 0, none⟩), .agg #[.string ⟨l.toArray⟩]] w fun e w' => e = .returned (.tuple #[]) ∧ Below B w w' ∧ KT [96] w w' := by
  have hq := (Below.refl _ w).alloc (Nat.le_refl _) (.cells #[.string ⟨l.toArray⟩] 96)
  have hrs : RsA w.heap.size l (w.alloc (.cells #[.string ⟨l.toArray⟩] 96)) := World.alloc_heap_new _ _
  have hbq : Below B w (w.alloc (.cells #[.string ⟨l.toArray⟩] 96)) := hq.mono hB
  have HC := hideS (rtext_c w.heap.size l _ hrs (hX _ hbq).2.2 hl)
  obtain ⟨H, hH⟩ : ∃ H, H = hdW l := ⟨_, rfl⟩
  rw [← hH] at HC k1 k2 k3 k4 k5
  have HQ := hideS hq
  have HBQ := hideS hbq
  have HR := hideS hrs
  have e1 : (H == wSet) = false := beq_eq_false_iff_ne.2 k1
  have e2 : (H == wRule) = false := beq_eq_false_iff_ne.2 k2
  have e3 : (H == wZone) = false := beq_eq_false_iff_ne.2 k3
  have e4 : (H == wEra) = false := beq_eq_false_iff_ne.2 k4
  have e5 : (H == wLink) = false := beq_eq_false_iff_ne.2 k5
  clear hX hq hbq hrs k1 k2 k3 k4 k5 hH
  go_enter Tryz.func46, Tryz.ntmps46
  go_wp2_with (go_at_call 71; refine HC.out.mono ?_; rintro e v1 ⟨rfl, t1, b1⟩)
  go_end0
  exact ⟨rfl, HBQ.out.trans (b1.below hB (by simp; omega)), (kt_on HQ.out).trans (kt_bq b1 HR.out (by decide))⟩
set_option maxHeartbeats 4000000 in
set_option maxRecDepth 100000 in
theorem take_rule0_c (B db : Nat) (l : By) (w : World) (s1 : Option Addr) (c1 : Nat) (v2 v3 : Value) (hd : w.heap[db]? = some (.cells #[.slice s1 0 c1, v2, v3] 26)) (hB : B ≤ w.heap.size) (hX : ∀ v : World, Below B w v → EVs v) (hl : l.length < 4294967281) (hw : hdW l = wRule) :
    Calls Tryz.prog 46 #[.pointer (some ⟨db, 0, none⟩), .agg #[.string ⟨l.toArray⟩]] w fun e w' => e = .returned (.tuple #[]) ∧ Below B w w' ∧ KT [96] w w' := by
  have hq := (Below.refl _ w).alloc (Nat.le_refl _) (.cells #[.string ⟨l.toArray⟩] 96)
  have hrs : RsA w.heap.size l (w.alloc (.cells #[.string ⟨l.toArray⟩] 96)) := World.alloc_heap_new _ _
  have hdl : db < w.heap.size := (Array.getElem?_eq_some_iff.1 hd).1
  have hbq : Below B w (w.alloc (.cells #[.string ⟨l.toArray⟩] 96)) := hq.mono hB
  have HC := hideS (rtext_c w.heap.size l _ hrs (hX _ hbq).2.2 hl)
  rw [hw] at HC
  have HD := hideS (heap_on hd hq)
  have HQ := hideS hq
  have HBQ := hideS hbq
  have HR := hideS hrs
  clear hX hq hbq hrs hd hw
  go_enter Tryz.func46, Tryz.ntmps46
  go_wp2_with (go_at_call 71; refine HC.out.mono ?_; rintro e v1 ⟨rfl, t1, b1⟩; have d1 := (cells3 ((b1.block db (by simp; omega) (by omega)).trans HD.out)).1)
  go_end0
  exact ⟨rfl, HBQ.out.trans (b1.below hB (by simp; omega)), (kt_on HQ.out).trans (kt_bq b1 HR.out (by decide))⟩
set_option maxHeartbeats 4000000 in
set_option maxRecDepth 100000 in
theorem take_era0_c (B db : Nat) (l : By) (w : World) (s1 : Option Addr) (c1 : Nat) (v1 v3 : Value) (hd : w.heap[db]? = some (.cells #[v1, .slice s1 0 c1, v3] 26)) (hB : B ≤ w.heap.size) (hX : ∀ v : World, Below B w v → EVs v) (hl : l.length < 4294967281) (hw : hdW l = wEra) :
    Calls Tryz.prog 46 #[.pointer (some ⟨db, 0, none⟩), .agg #[.string ⟨l.toArray⟩]] w fun e w' => e = .returned (.tuple #[]) ∧ Below B w w' ∧ KT [96] w w' := by
  have hq := (Below.refl _ w).alloc (Nat.le_refl _) (.cells #[.string ⟨l.toArray⟩] 96)
  have hrs : RsA w.heap.size l (w.alloc (.cells #[.string ⟨l.toArray⟩] 96)) := World.alloc_heap_new _ _
  have hdl : db < w.heap.size := (Array.getElem?_eq_some_iff.1 hd).1
  have hbq : Below B w (w.alloc (.cells #[.string ⟨l.toArray⟩] 96)) := hq.mono hB
  have HC := hideS (rtext_c w.heap.size l _ hrs (hX _ hbq).2.2 hl)
  rw [hw] at HC
  have HD := hideS (heap_on hd hq)
  have HQ := hideS hq
  have HBQ := hideS hbq
  have HR := hideS hrs
  clear hX hq hbq hrs hd hw
  go_enter Tryz.func46, Tryz.ntmps46
  go_wp2_with (go_at_call 71; refine HC.out.mono ?_; rintro e v1 ⟨rfl, t1, b1⟩; have d1 := (cells3 ((b1.block db (by simp; omega) (by omega)).trans HD.out)).2.1)
  go_end0
  exact ⟨rfl, HBQ.out.trans (b1.below hB (by simp; omega)), (kt_on HQ.out).trans (kt_bq b1 HR.out (by decide))⟩
end Go.Proofs.YtbpdbggojgijiaaGreatDoor.Src

/- What off.At's answers give; boxes that are made about a call. -/
import Derived.Test.YtdffopkljomipaaGreatDoorOffE
namespace Go.Proofs.YtdffopkljomipaaGreatDoor
open Go Go.RowKit Go.Maps
set_option linter.unusedVariables false

theorem rep_len (l new : List UInt8) : (Lib.replace l pct new 1).length ≤ l.length + new.length := by
  cases hn : (pct == new)
  · rw [rep1 l new hn]
    split
    · omega
    · rw [List.length_append, List.length_append, List.length_take, List.length_drop]; omega
  · unfold Lib.replace
    rw [hn]
    simp
/-- what off.At answers, where it answers -/
theorem ats_ok {D : Dt} {s : ByteArray} {t : Int} (h : atsE D s t = 0) : ∃ k : Nat, zonE D s = 0 ∧ zonR D s = k ∧ k < D.nz ∧ chkE D = 0 ∧ 0 ≤ t ∧ t < 1893456000 ∧ atsR D s t = offR D k t := by
  unfold atsE at h
  split at h
  · rename_i h0
    obtain ⟨hc, k, hk, hkz⟩ := zon_ok h0
    split at h
    · rename_i ht
      refine ⟨k, h0, hk, hkz, hc, ht.1, ht.2, ?_⟩
      unfold atsR
      rw [if_pos h0, if_pos ht, hk]; rfl
    · cases h
  · rename_i h0
    exact absurd h h0
theorem ats_zone {D : Dt} {k : Nat} {t : Int} (hc : chkE D = 0) (hk : k < D.nz) (t0 : 0 ≤ t) (t1 : t < 1893456000) : atsE D (D.zs k).nm t = 0 ∧ atsR D (D.zs k).nm t = offR D k t := by
  obtain ⟨z1, z2⟩ := zone_told hc hk
  unfold atsE atsR
  rw [if_pos z2, if_pos z2, if_pos ⟨t0, t1⟩, if_pos ⟨t0, t1⟩, z1]
  exact ⟨rfl, rfl⟩
theorem offS_in {D : Dt} (hc : chkE D = 0) {k : Nat} (hk : k < D.nz) (t : Int) : 0 ≤ offS D k t ∧ offS D k t ≤ 7200 := by
  have hlt := eraI_lt (es := (D.zs k).es) t ((chk_all hc).1.2.2 k hk).1
  have hb := ebd (chk_era hc hk hlt)
  change -50400 ≤ (offX D k t).std ∧ (offX D k t).std ≤ 50400 ∧ -1 ≤ (offX D k t).set ∧ (offX D k t).set < D.ns ∧ 0 ≤ (offX D k t).sv ∧ (0 ≤ (offX D k t).set ∧ (offX D k t).sv ≤ 0 ∨ (offX D k t).set < 0 ∧ (offX D k t).sv ≤ 7200) at hb
  unfold offS
  split
  · exact rulS_in hc (by omega) _ _
  · omega
theorem offA_in {D : Dt} (hc : chkE D = 0) {k : Nat} (hk : k < D.nz) (t : Int) : (offA D k t).size ≤ 24 := by
  have hlt := eraI_lt (es := (D.zs k).es) t ((chk_all hc).1.2.2 k hk).1
  have hb := ebd (chk_era hc hk hlt)
  change -50400 ≤ (offX D k t).std ∧ (offX D k t).std ≤ 50400 ∧ -1 ≤ (offX D k t).set ∧ (offX D k t).set < D.ns ∧ 0 ≤ (offX D k t).sv ∧ (0 ≤ (offX D k t).set ∧ (offX D k t).sv ≤ 0 ∨ (offX D k t).set < 0 ∧ (offX D k t).sv ≤ 7200) at hb
  have hf : (offX D k t).fm.size ≤ 12 := chk_fmt hc hk hlt
  have hl : (offL D k t).size ≤ 12 := by
    unfold offL
    split
    · exact rulL_in hc (by omega) _ _
    · exact Nat.zero_le _
  have h := rep_len (offX D k t).fm.data.toList (offL D k t).data.toList
  have e1 : (offX D k t).fm.data.toList.length = (offX D k t).fm.size := by simp
  have e2 : (offL D k t).data.toList.length = (offL D k t).size := by simp
  have e3 : (offA D k t).size = (Lib.replace (offX D k t).fm.data.toList pct (offL D k t).data.toList 1).length := by unfold offA; simp [ByteArray.size]
  omega

/-- a box that was made behind a call -/
theorem meetA {w v w4 : World} {b1 b2 : Nat} {o1 o2 : Obj} (h : Below w.heap.size w v) (hw : Below v.heap.size v w4) (c1 : v.heap[b1]? = some o1) (c2 : v.heap[b2]? = some o2) (o : Obj) :
    Below w.heap.size w (w4.alloc o) ∧ (w4.alloc o).heap[w4.heap.size]? = some o ∧ (w4.alloc o).heap[b1]? = some o1 ∧ (w4.alloc o).heap[b2]? = some o2 := by
  have hb := (Below.refl _ w4).alloc (Nat.le_refl _) o
  exact ⟨bthen (bthen h hw) hb, World.alloc_heap_new _ _, heap_on (heap_on c1 hw) hb, heap_on (heap_on c2 hw) hb⟩
/-- a box of three cells that was made ahead of a call, and stored into behind it -/
theorem meetB {w w3 w4 : World} {b1 b2 : Nat} {o1 o2 : Obj} {z0 z1 z2 : Value} {ty : TypeId} (h : Below w.heap.size w w3) (hw : Below (w3.alloc (.cells #[z0, z1, z2] ty)).heap.size (w3.alloc (.cells #[z0, z1, z2] ty)).drew w4) (c1 : w3.heap[b1]? = some o1) (c2 : w3.heap[b2]? = some o2) (x y z : Value) :
    Below w.heap.size w (((w4.setCell ⟨w3.heap.size, 0, none⟩ x).setCell ⟨w3.heap.size, 1, none⟩ y).setCell ⟨w3.heap.size, 2, none⟩ z) ∧ (((w4.setCell ⟨w3.heap.size, 0, none⟩ x).setCell ⟨w3.heap.size, 1, none⟩ y).setCell ⟨w3.heap.size, 2, none⟩ z).heap[w3.heap.size]? = some (.cells #[x, y, z] ty) ∧
      (((w4.setCell ⟨w3.heap.size, 0, none⟩ x).setCell ⟨w3.heap.size, 1, none⟩ y).setCell ⟨w3.heap.size, 2, none⟩ z).heap[b1]? = some o1 ∧ (((w4.setCell ⟨w3.heap.size, 0, none⟩ x).setCell ⟨w3.heap.size, 1, none⟩ y).setCell ⟨w3.heap.size, 2, none⟩ z).heap[b2]? = some o2 := by
  have hb := (Below.refl _ w3).alloc (Nat.le_refl _) (.cells #[z0, z1, z2] ty)
  have hz := h.size
  have l1 := (Array.getElem?_eq_some_iff.1 c1).1
  have l2 := (Array.getElem?_eq_some_iff.1 c2).1
  have h4 : Below w.heap.size w w4 := bthen (w := w) (a := (w3.alloc (.cells #[z0, z1, z2] ty)).drew) (bthen h hb).drew hw
  have n := heap_on (w := (w3.alloc (.cells #[z0, z1, z2] ty)).drew) (World.alloc_heap_new w3 (.cells #[z0, z1, z2] ty)) hw
  have d1 := heap_on (w := (w3.alloc (.cells #[z0, z1, z2] ty)).drew) (heap_on c1 hb.drew) hw
  have d2 := heap_on (w := (w3.alloc (.cells #[z0, z1, z2] ty)).drew) (heap_on c2 hb.drew) hw
  refine ⟨((h4.setCell (p := ⟨w3.heap.size, 0, none⟩) hz _).setCell (p := ⟨w3.heap.size, 1, none⟩) hz _).setCell (p := ⟨w3.heap.size, 2, none⟩) hz _, setCell_at (setCell_at (setCell_at n _) _) _, ?_, ?_⟩
  · rw [Below.heap_setCell _ _ _ _ (show b1 ≠ w3.heap.size by omega), Below.heap_setCell _ _ _ _ (show b1 ≠ w3.heap.size by omega), Below.heap_setCell _ _ _ _ (show b1 ≠ w3.heap.size by omega)]; exact d1
  · rw [Below.heap_setCell _ _ _ _ (show b2 ≠ w3.heap.size by omega), Below.heap_setCell _ _ _ _ (show b2 ≠ w3.heap.size by omega), Below.heap_setCell _ _ _ _ (show b2 ≠ w3.heap.size by omega)]; exact d2

end Go.Proofs.YtdffopkljomipaaGreatDoor

/- The contract of off.At. -/
import Derived.Test.YtbpdbggojgijiaaGreatDoorOffAAll
import Derived.Lib.ReplaceLaws
import Derived.Deep.RegionWith
namespace Go.Proofs.YtbpdbggojgijiaaGreatDoor
open Go Go.RowKit Go.Maps
set_option linter.unusedVariables false

theorem chk_all {D : Dt} (h : chkE D = 0) : (few1 D ∧ few2 D ∧ few3 D) ∧ rulE D = 0 ∧ ersOK D ∧ fmts D := by
  unfold chkE at h
  split at h
  · rename_i hf
    split at h
    · split at h
      · split at h
        · split at h
          · rename_i hr
            split at h
            · rename_i he
              split at h
              · rename_i hm
                exact ⟨few_all hf, hr, he, hm⟩
              · cases h
            · cases h
          · rename_i hr
            exact absurd h hr
        · cases h
      · cases h
    · cases h
  · cases h
theorem chk_rule {D : Dt} (h : chkE D = 0) {j i : Nat} (hj : j < D.ns) (hi : i < (D.ss j).n) : rchk ((D.ss j).rs i) = 0 := fstE_all (fstE_all (chk_all h).2.1 j hj) i hi
theorem rchk_let {r : Rl} (h : rchk r = 0) : r.s.size ≤ 12 := by
  rcases rchk_cases r with ⟨_, h1⟩ | ⟨_, h'⟩
  · omega
  · rcases h' with ⟨h1, h2⟩ | ⟨_, h'⟩
    · omega
    · rcases h' with ⟨_, h1⟩ | ⟨h1, _⟩
      · omega
      · unfold letS at h1
        simp at h1
        exact h1.1
theorem ebd {x : Er} {n : Int} (h : ebnd x n = true) : -50400 ≤ x.std ∧ x.std ≤ 50400 ∧ -1 ≤ x.set ∧ x.set < n ∧ 0 ≤ x.sv ∧ (0 ≤ x.set ∧ x.sv ≤ 0 ∨ x.set < 0 ∧ x.sv ≤ 7200) := by unfold ebnd at h; simpa using h
theorem chk_era {D : Dt} (h : chkE D = 0) {j i : Nat} (hj : j < D.nz) (hi : i < (D.zs j).n) : ebnd ((D.zs j).es i) D.ns = true := (((chk_all h).2.2.1 j hj).1 i hi).1
theorem chk_fmt {D : Dt} (h : chkE D = 0) {j i : Nat} (hj : j < D.nz) (hi : i < (D.zs j).n) : ((D.zs j).es i).fm.size ≤ 12 := by
  have := (chk_all h).2.2.2 j hj i hi
  unfold fmtB at this
  simp at this
  exact this.1.2
theorem eraI_lt {es : Nat → Er} {n : Nat} (t : Int) (h : 1 ≤ n) : eraI es n t < n := by
  unfold eraI
  cases hf : (List.range n).find? fun j => decide (t < (es j).un) with
  | none => simp; omega
  | some j => exact List.mem_range.1 (List.mem_of_find?_eq_some hf)
theorem rulS_in {D : Dt} (h : chkE D = 0) {j : Nat} (hj : j < D.ns) (std t : Int) : 0 ≤ rulS (D.ss j).rs (D.ss j).n std t ∧ rulS (D.ss j).rs (D.ss j).n std t ≤ 7200 := by
  unfold rulS
  split
  · rename_i he
    obtain ⟨k, k1, k2, -, -, -⟩ := last_which _ _ _ _ he
    rw [k2]
    have := bnd_of (rchk_bnd (chk_rule h hj k1))
    exact ⟨this.2.2.2.2.2.2.2.1, this.2.2.2.2.2.2.2.2⟩
  · omega
theorem rulL_in {D : Dt} (h : chkE D = 0) {j : Nat} (hj : j < D.ns) (std t : Int) : (rulL (D.ss j).rs (D.ss j).n std t).size ≤ 12 := by
  unfold rulL
  split
  · rename_i he
    obtain ⟨k, k1, k2, -, -, -⟩ := last_which _ _ _ _ he
    rw [k2]
    exact rchk_let (chk_rule h hj k1)
  · exact fstL_size fun i hi => rchk_let (chk_rule h hj hi)

/-- the era that has a time; what is saved then, and the letter -/
def offX (D : Dt) (k : Nat) (t : Int) : Er := (D.zs k).es (eraI (D.zs k).es (D.zs k).n t)
def offS (D : Dt) (k : Nat) (t : Int) : Int := if 0 ≤ (offX D k t).set then rulS (D.ss (offX D k t).set.toNat).rs (D.ss (offX D k t).set.toNat).n (offX D k t).std t else (offX D k t).sv
def offL (D : Dt) (k : Nat) (t : Int) : ByteArray := if 0 ≤ (offX D k t).set then rulL (D.ss (offX D k t).set.toNat).rs (D.ss (offX D k t).set.toNat).n (offX D k t).std t else ⟨#[]⟩
def offA (D : Dt) (k : Nat) (t : Int) : ByteArray := ⟨(Lib.replace (offX D k t).fm.data.toList pct (offL D k t).data.toList 1).toArray⟩
/-- an offset -/
structure Of where
  tot : Int
  sv : Int
  ab : ByteArray
abbrev Of.v (x : Of) : Value := .agg #[.int .i64 x.tot, .int .i64 x.sv, .string x.ab]
def oZ : Of := ⟨0, 0, ⟨#[]⟩⟩
def offR (D : Dt) (k : Nat) (t : Int) : Of := ⟨(offX D k t).std + offS D k t, offS D k t, offA D k t⟩
/-- what off.At answers -/
def atsE (D : Dt) (s : ByteArray) (t : Int) : Int := if zonE D s = 0 then (if 0 ≤ t ∧ t < 1893456000 then 0 else 3) else zonE D s
def atsR (D : Dt) (s : ByteArray) (t : Int) : Of := if zonE D s = 0 then (if 0 ≤ t ∧ t < 1893456000 then offR D (zonR D s).toNat t else oZ) else oZ
theorem zon_ok {D : Dt} {s : ByteArray} (h : zonE D s = 0) : chkE D = 0 ∧ ∃ k : Nat, zonR D s = k ∧ k < D.nz := by
  unfold zonE at h
  split at h
  · rename_i hc
    have hi := lead_in _ _ h
    refine ⟨hc, (leadK D (D.nl + 1) s).1.toNat, ?_, by omega⟩
    unfold zonR
    rw [if_pos hc, if_pos h]
    omega
  · rename_i hc
    exact absurd h hc
theorem rep_room {x y : ByteArray} (hx : x.size ≤ 12) (hy : y.size ≤ 12) : x.size + Lib.countB x ⟨#[37, 115]⟩ * y.size ≤ 140737488355328 := by
  have h2 : (ByteArray.mk #[37, 115]).size = 2 := rfl
  have h := Lib.countB_mul_le ⟨#[37, 115]⟩ (by decide) x.size x (Nat.le_refl _)
  rw [h2] at h
  have : Lib.countB x ⟨#[37, 115]⟩ * y.size ≤ 6 * 12 := Nat.mul_le_mul (by omega) hy
  omega

/-- off.At's own boxes -/
theorem two_boxes (w : World) (o1 o2 : Obj) : Below w.heap.size w ((w.alloc o1).alloc o2) ∧ ((w.alloc o1).alloc o2).heap[w.heap.size]? = some o1 ∧ ((w.alloc o1).alloc o2).heap[w.heap.size + 1]? = some o2 := by
  refine ⟨((Below.refl _ w).alloc (Nat.le_refl _) _).alloc (by simp) _, ?_, ?_⟩
  · rw [Below.heap_alloc _ _ _ (by simp)]; exact World.alloc_heap_new _ _
  · have := World.alloc_heap_new (w.alloc o1) o2
    rwa [World.size_alloc] at this
abbrev dC (D : Dt) : Array Value := #[.slice D.sa D.ns D.sc, .slice D.za D.nz D.zc, .slice D.la D.nl D.lc]
end Go.Proofs.YtbpdbggojgijiaaGreatDoor

/- The contract of off.At, whole. -/
namespace Go.Proofs.YtbpdbggojgijiaaGreatDoor
open Go Go.RowKit Go.Maps
set_option linter.unusedVariables false
end Go.Proofs.YtbpdbggojgijiaaGreatDoor

/- The contract of off.At, whole. -/
namespace Go.Proofs.YtbpdbggojgijiaaGreatDoor
open Go Go.RowKit Go.Maps
set_option linter.unusedVariables false
end Go.Proofs.YtbpdbggojgijiaaGreatDoor

/- What off.At's answers give; boxes that are made about a call. -/
namespace Go.Proofs.YtbpdbggojgijiaaGreatDoor
open Go Go.RowKit Go.Maps
set_option linter.unusedVariables false

theorem rep_len (l new : List UInt8) : (Lib.replace l pct new 1).length ≤ l.length + new.length := by
  cases hn : (pct == new)
  · rw [rep1 l new hn]
    split
    · omega
    · rw [List.length_append, List.length_append, List.length_take, List.length_drop]; omega
  · unfold Lib.replace
    rw [hn]
    simp
/-- what off.At answers, where it answers -/
theorem ats_ok {D : Dt} {s : ByteArray} {t : Int} (h : atsE D s t = 0) : ∃ k : Nat, zonE D s = 0 ∧ zonR D s = k ∧ k < D.nz ∧ chkE D = 0 ∧ 0 ≤ t ∧ t < 1893456000 ∧ atsR D s t = offR D k t := by
  unfold atsE at h
  split at h
  · rename_i h0
    obtain ⟨hc, k, hk, hkz⟩ := zon_ok h0
    split at h
    · rename_i ht
      refine ⟨k, h0, hk, hkz, hc, ht.1, ht.2, ?_⟩
      unfold atsR
      rw [if_pos h0, if_pos ht, hk]; rfl
    · cases h
  · rename_i h0
    exact absurd h h0
theorem ats_zone {D : Dt} {k : Nat} {t : Int} (hc : chkE D = 0) (hk : k < D.nz) (t0 : 0 ≤ t) (t1 : t < 1893456000) : atsE D (D.zs k).nm t = 0 ∧ atsR D (D.zs k).nm t = offR D k t := by
  obtain ⟨z1, z2⟩ := zone_told hc hk
  unfold atsE atsR
  rw [if_pos z2, if_pos z2, if_pos ⟨t0, t1⟩, if_pos ⟨t0, t1⟩, z1]
  exact ⟨rfl, rfl⟩
theorem offS_in {D : Dt} (hc : chkE D = 0) {k : Nat} (hk : k < D.nz) (t : Int) : 0 ≤ offS D k t ∧ offS D k t ≤ 7200 := by
  have hlt := eraI_lt (es := (D.zs k).es) t ((chk_all hc).1.2.2 k hk).1
  have hb := ebd (chk_era hc hk hlt)
  change -50400 ≤ (offX D k t).std ∧ (offX D k t).std ≤ 50400 ∧ -1 ≤ (offX D k t).set ∧ (offX D k t).set < D.ns ∧ 0 ≤ (offX D k t).sv ∧ (0 ≤ (offX D k t).set ∧ (offX D k t).sv ≤ 0 ∨ (offX D k t).set < 0 ∧ (offX D k t).sv ≤ 7200) at hb
  unfold offS
  split
  · exact rulS_in hc (by omega) _ _
  · omega
theorem offA_in {D : Dt} (hc : chkE D = 0) {k : Nat} (hk : k < D.nz) (t : Int) : (offA D k t).size ≤ 24 := by
  have hlt := eraI_lt (es := (D.zs k).es) t ((chk_all hc).1.2.2 k hk).1
  have hb := ebd (chk_era hc hk hlt)
  change -50400 ≤ (offX D k t).std ∧ (offX D k t).std ≤ 50400 ∧ -1 ≤ (offX D k t).set ∧ (offX D k t).set < D.ns ∧ 0 ≤ (offX D k t).sv ∧ (0 ≤ (offX D k t).set ∧ (offX D k t).sv ≤ 0 ∨ (offX D k t).set < 0 ∧ (offX D k t).sv ≤ 7200) at hb
  have hf : (offX D k t).fm.size ≤ 12 := chk_fmt hc hk hlt
  have hl : (offL D k t).size ≤ 12 := by
    unfold offL
    split
    · exact rulL_in hc (by omega) _ _
    · exact Nat.zero_le _
  have h := rep_len (offX D k t).fm.data.toList (offL D k t).data.toList
  have e1 : (offX D k t).fm.data.toList.length = (offX D k t).fm.size := by simp
  have e2 : (offL D k t).data.toList.length = (offL D k t).size := by simp
  have e3 : (offA D k t).size = (Lib.replace (offX D k t).fm.data.toList pct (offL D k t).data.toList 1).length := by unfold offA; simp [ByteArray.size]
  omega

/-- a box that was made behind a call -/
theorem meetA {w v w4 : World} {b1 b2 : Nat} {o1 o2 : Obj} (h : Below w.heap.size w v) (hw : Below v.heap.size v w4) (c1 : v.heap[b1]? = some o1) (c2 : v.heap[b2]? = some o2) (o : Obj) :
    Below w.heap.size w (w4.alloc o) ∧ (w4.alloc o).heap[w4.heap.size]? = some o ∧ (w4.alloc o).heap[b1]? = some o1 ∧ (w4.alloc o).heap[b2]? = some o2 := by
  have hb := (Below.refl _ w4).alloc (Nat.le_refl _) o
  exact ⟨bthen (bthen h hw) hb, World.alloc_heap_new _ _, heap_on (heap_on c1 hw) hb, heap_on (heap_on c2 hw) hb⟩
/-- a box of three cells that was made ahead of a call, and stored into behind it -/
theorem meetB {w w3 w4 : World} {b1 b2 : Nat} {o1 o2 : Obj} {z0 z1 z2 : Value} {ty : TypeId} (h : Below w.heap.size w w3) (hw : Below (w3.alloc (.cells #[z0, z1, z2] ty)).heap.size (w3.alloc (.cells #[z0, z1, z2] ty)).drew w4) (c1 : w3.heap[b1]? = some o1) (c2 : w3.heap[b2]? = some o2) (x y z : Value) :
    Below w.heap.size w (((w4.setCell ⟨w3.heap.size, 0, none⟩ x).setCell ⟨w3.heap.size, 1, none⟩ y).setCell ⟨w3.heap.size, 2, none⟩ z) ∧ (((w4.setCell ⟨w3.heap.size, 0, none⟩ x).setCell ⟨w3.heap.size, 1, none⟩ y).setCell ⟨w3.heap.size, 2, none⟩ z).heap[w3.heap.size]? = some (.cells #[x, y, z] ty) ∧
      (((w4.setCell ⟨w3.heap.size, 0, none⟩ x).setCell ⟨w3.heap.size, 1, none⟩ y).setCell ⟨w3.heap.size, 2, none⟩ z).heap[b1]? = some o1 ∧ (((w4.setCell ⟨w3.heap.size, 0, none⟩ x).setCell ⟨w3.heap.size, 1, none⟩ y).setCell ⟨w3.heap.size, 2, none⟩ z).heap[b2]? = some o2 := by
  have hb := (Below.refl _ w3).alloc (Nat.le_refl _) (.cells #[z0, z1, z2] ty)
  have hz := h.size
  have l1 := (Array.getElem?_eq_some_iff.1 c1).1
  have l2 := (Array.getElem?_eq_some_iff.1 c2).1
  have h4 : Below w.heap.size w w4 := bthen (w := w) (a := (w3.alloc (.cells #[z0, z1, z2] ty)).drew) (bthen h hb).drew hw
  have n := heap_on (w := (w3.alloc (.cells #[z0, z1, z2] ty)).drew) (World.alloc_heap_new w3 (.cells #[z0, z1, z2] ty)) hw
  have d1 := heap_on (w := (w3.alloc (.cells #[z0, z1, z2] ty)).drew) (heap_on c1 hb.drew) hw
  have d2 := heap_on (w := (w3.alloc (.cells #[z0, z1, z2] ty)).drew) (heap_on c2 hb.drew) hw
  refine ⟨((h4.setCell (p := ⟨w3.heap.size, 0, none⟩) hz _).setCell (p := ⟨w3.heap.size, 1, none⟩) hz _).setCell (p := ⟨w3.heap.size, 2, none⟩) hz _, setCell_at (setCell_at (setCell_at n _) _) _, ?_, ?_⟩
  · rw [Below.heap_setCell _ _ _ _ (show b1 ≠ w3.heap.size by omega), Below.heap_setCell _ _ _ _ (show b1 ≠ w3.heap.size by omega), Below.heap_setCell _ _ _ _ (show b1 ≠ w3.heap.size by omega)]; exact d1
  · rw [Below.heap_setCell _ _ _ _ (show b2 ≠ w3.heap.size by omega), Below.heap_setCell _ _ _ _ (show b2 ≠ w3.heap.size by omega), Below.heap_setCell _ _ _ _ (show b2 ≠ w3.heap.size by omega)]; exact d2

end Go.Proofs.YtbpdbggojgijiaaGreatDoor

/- Contracts of package data: places (a map of names). -/
import Derived.Test.YtdffopkljomipaaGreatDoorDataF
import Derived.Maps.OwnSet
import Derived.Maps.OwnOps
import Derived.Maps.Views
namespace Go.Proofs.YtdffopkljomipaaGreatDoor
open Go Go.RowKit Go.Maps
set_option linter.unusedVariables false

/-- no name stands twice -/
abbrev dist (nm : Nat → ByteArray) (n : Nat) : Prop := ∀ i, i < n → ∀ j, j < i → (nm i).data.toList ≠ (nm j).data.toList
/-- names and their places, as a map reads -/
def pm (nm : Nat → ByteArray) : Nat → DataW Unit
  | 0 => .map []
  | k + 1 => (pm nm k).put (.string (nm k).data.toList) (.lit (.int .i64 k))
theorem pm_isMap (nm : Nat → ByteArray) : ∀ k, IsMap (pm nm k)
  | 0 => isMap_empty
  | k + 1 => (pm_isMap nm k).put _ _
theorem keyLit (l : List UInt8) : WideAt.IsKeyLit (.string l) := by trivial
theorem pm_has (nm : Nat → ByteArray) (s : List UInt8) : ∀ k, Maps.has (pm nm k) (.string s) = true ↔ ∃ j, j < k ∧ (nm j).data.toList = s
  | 0 => by
    constructor
    · intro h; simp [pm, has_eq] at h
    · rintro ⟨j, h, _⟩; omega
  | k + 1 => by
    unfold pm
    by_cases hs : s = (nm k).data.toList
    · subst hs
      rw [has_put_same (pm_isMap nm k) (keyLit _)]
      exact ⟨fun _ => ⟨k, by omega, rfl⟩, fun _ => rfl⟩
    · rw [has_put_other (fun e => hs (by injection e)), pm_has nm s k]
      constructor
      · rintro ⟨j, h, e⟩; exact ⟨j, by omega, e⟩
      · rintro ⟨j, h, e⟩
        rcases Nat.lt_or_ge j k with h1 | h1
        · exact ⟨j, h1, e⟩
        · obtain rfl : j = k := by omega
          exact absurd e.symm hs
theorem pm_at (nm : Nat → ByteArray) (z : DataW Unit) : ∀ k, dist nm k → ∀ j, j < k → (pm nm k).atKey (.string (nm j).data.toList) z = .lit (.int .i64 j)
  | 0, _, j, h => by omega
  | k + 1, hd, j, h => by
    unfold pm
    rcases Nat.lt_or_ge j k with h1 | h1
    · rw [atKey_put_other (fun e => hd k (by omega) j h1 (by injection e with e; exact e.symm))]
      exact pm_at nm z k (fun i hi j' hj => hd i (by omega) j' hj) j h1
    · obtain rfl : j = k := by omega
      exact atKey_put_same (pm_isMap nm j) (keyLit _) _ _
/-- the map of names lies in block B -/
def MAt (w : World) (B : Nat) (nm : Nat → ByteArray) (n : Nat) : Prop := w.ownsMap Tryz.prog 9 (plainElem Tryz.prog 3) B n (pm nm n)
theorem MAt.on {w w' : World} {B n : Nat} {nm : Nat → ByteArray} (h : MAt w B nm n) (hb : Below w.heap.size w w') : MAt w' B nm n :=
  World.ownsMap.kept (row := none) h ⟨hb.os, hb.tape, hb.output, hb.size, fun k hk _ => hb.block k hk⟩ (by simp)
theorem law : Keyed Tryz.prog 9 := string_keyed Tryz.underlying9
theorem zero_int (w : World) : (zeroValue 3).run Tryz.prog w = .ok (.int .i64 0) w := by kernel_rfl

set_option maxHeartbeats 4000000 in
theorem places_c (a : Option Addr) (n c : Nat) (nm : Nat → ByteArray) (w : World) (hn : n ≤ 1000) (hz : ∀ j, j < n → (nm j).size ≤ maxLen) (hP : P1 w a n (fun j => .string (nm j))) :
    Calls Tryz.prog 62 #[.slice a n c] w fun e w' => Below w.heap.size w w' ∧ ((dist nm n ∧ e = .returned (.map (some w.heap.size)) ∧ MAt w' w.heap.size nm n) ∨ (¬ dist nm n ∧ e = left 6)) := by
  have HP := hideH hP
  have HZ := hideH hz
  clear hP hz
  have hmm := @run_makeMap Tryz.prog
  go_enter Tryz.func62, Tryz.ntmps62
  go_wp2_with fail
  clear hmm
  go_loopw [11] (fun x11 wr => ∃ j : Nat, j ≤ n ∧ x11 = .int .i64 j ∧ Hid (MAt wr w.heap.size nm j) ∧ Hid (Below w.heap.size w wr) ∧ Hid (dist nm j)) (fun x11 _ => n - (intOf x11).toNat)
  case atStart => exact ⟨0, Nat.zero_le _, rfl, World.ownsMap_made _ _ _ _, (Below.refl _ _).alloc (Nat.le_refl _) _, fun i hi => by omega⟩
  case round =>
    obtain ⟨j, hj, rfl, HO, HW, HD⟩ := hrel
    by_cases hlt : j < n
    · rcases HP.out.on HW.out with h0 | ⟨b, off, hsa, hcs⟩
      · omega
      have c0 := hcs j hlt
      clear hcs
      have hkey := hideH (WideMaps.keyOf_string_mk (P := Tryz.prog) Tryz.underlying9 (HZ.out j hlt))
      cases hh : Maps.has (pm nm j) (.string (nm j).data.toList)
      · have HN : Hid (dist nm (j + 1)) := fun i hi k hk => by
          rcases Nat.lt_or_ge i j with h | h
          · exact HD.out i h k hk
          · obtain rfl : i = j := by omega
            intro e
            have := (pm_has nm (nm i).data.toList i).2 ⟨k, hk, e.symm⟩
            rw [hh] at this; cases this
        go_wp2_with (first
          | (at_lookup; refine wpList_lookup_own_ok_int _ rfl _ _ 75 rfl 9 3 .i64 law Tryz.underlying75 Tryz.underlying3 (zero_int _) w.heap.size j (pm nm j) rfl HO.out _ _ rfl hkey.out ?_; intro c1 hat hwc; clear hat hwc)
          | (go_at_call 51; refine (refuse_f (by first | rfl | simp [hh]) _ _).mono ?_; rintro x wr ⟨rfl, rfl⟩)
          | (at_mapUpdate; refine wpList_mapUpdate_own _ rfl _ _ _ 75 rfl 9 3 law Tryz.underlying75 _ w.heap.size j (pm nm j) rfl HO.out (by unfold maxLen; omega) _ _ _ rfl rfl hkey.out (.lit (.int .i64 j)) [] (plainElem_int Tryz.underlying3 (WalkArith.wf_i64 (by omega))) ?_; intro w1 hown1 hgrow1))
        simp only [← hsa]
        go_roundw
        case rel => exact ⟨j + 1, by omega, by go_num, hown1, HW.out.grown hgrow1 HW.out.size (fun k e => by cases e; exact Nat.le_refl _), HN⟩
        case measure => simp [intOf]; omega
      · have HN : Hid (¬ dist nm n) := fun hd => by
          obtain ⟨k, hk, e⟩ := (pm_has nm (nm j).data.toList j).1 hh
          exact hd j hlt k hk e.symm
        go_wp2_with (first
          | (at_lookup; refine wpList_lookup_own_ok_int _ rfl _ _ 75 rfl 9 3 .i64 law Tryz.underlying75 Tryz.underlying3 (zero_int _) w.heap.size j (pm nm j) rfl HO.out _ _ rfl hkey.out ?_; intro c1 hat hwc; clear hat hwc)
          | (go_at_call 51; refine (refuse_t (by first | rfl | simp [hh]) _ _).mono ?_; rintro x wr ⟨rfl, rfl⟩))
        exact ⟨rfl, HW.out, .inr ⟨HN.out, (left_no (by decide)).symm⟩⟩
    · obtain rfl : j = n := by omega
      go_wp2_with fail
      go_ret
      exact ⟨HW.out, .inl ⟨HD.out, rfl, HO.out⟩⟩
end Go.Proofs.YtdffopkljomipaaGreatDoor

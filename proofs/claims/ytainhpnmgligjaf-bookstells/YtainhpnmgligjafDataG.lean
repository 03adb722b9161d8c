/- Contracts of package data: places (a map of names). -/
import Derived.Test.YtainhpnmgligjafDataF
import Derived.Maps.OwnSet
import Derived.Maps.OwnOps
import Derived.Maps.Views
namespace Go.Proofs.Ytainhpnmgligjaf
open Go Go.RowKit Go.Maps
set_option linter.unusedVariables false

/-- no name stands twice -/
abbrev dist (nm : Nat → ByteArray) (n : Nat) : Prop := ∀ i, i < n → ∀ j, j < i → (nm i).data.toList ≠ (nm j).data.toList
/-- names and their places, as a map reads -/
def pm (nm : Nat → ByteArray) : Nat → DataW Unit
  | 0 => .map []
  | k + 1 => (pm nm k).put (.string (nm k).data.toList) (.lit (.int .i64 k))
theorem pm_isMap (nm : Nat → ByteArray) : ∀ k, IsMap (pm nm k)
  | 0 => isMap_empty
  | k + 1 => (pm_isMap nm k).put _ _
theorem keyLit (l : List UInt8) : WideAt.IsKeyLit (.string l) := by trivial
theorem pm_has (nm : Nat → ByteArray) (s : List UInt8) : ∀ k, Maps.has (pm nm k) (.string s) = true ↔ ∃ j, j < k ∧ (nm j).data.toList = s
  | 0 => by
    constructor
    · intro h; simp [pm, has_eq] at h
    · rintro ⟨j, h, _⟩; omega
  | k + 1 => by
    unfold pm
    by_cases hs : s = (nm k).data.toList
    · subst hs
      rw [has_put_same (pm_isMap nm k) (keyLit _)]
      exact ⟨fun _ => ⟨k, by omega, rfl⟩, fun _ => rfl⟩
    · rw [has_put_other (fun e => hs (by injection e)), pm_has nm s k]
      constructor
      · rintro ⟨j, h, e⟩; exact ⟨j, by omega, e⟩
      · rintro ⟨j, h, e⟩
        rcases Nat.lt_or_ge j k with h1 | h1
        · exact ⟨j, h1, e⟩
        · obtain rfl : j = k := by omega
          exact absurd e.symm hs
theorem pm_at (nm : Nat → ByteArray) (z : DataW Unit) : ∀ k, dist nm k → ∀ j, j < k → (pm nm k).atKey (.string (nm j).data.toList) z = .lit (.int .i64 j)
  | 0, _, j, h => by omega
  | k + 1, hd, j, h => by
    unfold pm
    rcases Nat.lt_or_ge j k with h1 | h1
    · rw [atKey_put_other (fun e => hd k (by omega) j h1 (by injection e with e; exact e.symm))]
      exact pm_at nm z k (fun i hi j' hj => hd i (by omega) j' hj) j h1
    · obtain rfl : j = k := by omega
      exact atKey_put_same (pm_isMap nm j) (keyLit _) _ _
/-- the map of names lies in block B -/
def MAt (w : World) (B : Nat) (nm : Nat → ByteArray) (n : Nat) : Prop := w.ownsMap Try.prog 9 (plainElem Try.prog 3) B n (pm nm n)
theorem MAt.on {w w' : World} {B n : Nat} {nm : Nat → ByteArray} (h : MAt w B nm n) (hb : Below w.heap.size w w') : MAt w' B nm n :=
  World.ownsMap.kept (row := none) h ⟨hb.os, hb.tape, hb.output, hb.size, fun k hk _ => hb.block k hk⟩ (by simp)
theorem law : Keyed Try.prog 9 := string_keyed Try.underlying9
theorem zero_int (w : World) : (zeroValue 3).run Try.prog w = .ok (.int .i64 0) w := by kernel_rfl

end Go.Proofs.Ytainhpnmgligjaf

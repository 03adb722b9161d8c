/- Contracts of package data: isFormat, inBounds. -/
import Derived.Test.YtainhpnmgligjafDataB
namespace Go.Proofs.Ytainhpnmgligjaf
open Go Go.RowKit
set_option linter.unusedVariables false

/-- internal/bytealg.MaxLen holds a number -/
def Mx (w : World) : Prop := ∃ m, w.cell? ⟨0, 0, none⟩ = some (.int .i64 m)
theorem Mx.on {w w' : World} (h : Mx w) (hb : Below w.heap.size w w') : Mx w' := by
  obtain ⟨m, hm⟩ := h
  exact ⟨m, cell_on hm hb⟩
/-- '%s' -/
abbrev pct : List UInt8 := [37, 115]
theorem rep1 (l new : List UInt8) (hn : (pct == new) = false) : Lib.replace l pct new 1 = if Lib.index l pct = -1 then l else l.take (Lib.index l pct).toNat ++ new ++ l.drop ((Lib.index l pct).toNat + 2) := by
  unfold Lib.replace
  rw [hn]
  simp only [Bool.false_eq_true, if_false]
  by_cases h : Lib.index l pct = -1
  · rw [if_pos h]
    have hc : Lib.count l pct = 0 := by unfold Lib.count Lib.countFrom; rw [if_pos (by rw [h]; rfl)]
    unfold Lib.replaceNum
    rw [hc, if_pos (.inr (by decide))]
    rfl
  · rw [if_neg h]
    have hc : 1 ≤ Lib.count l pct := by unfold Lib.count Lib.countFrom; rw [if_neg (by simpa using h)]; omega
    unfold Lib.replaceNum
    rw [if_neg (by omega)]
    have hge := Lib.index_ge l pct
    have hk := Lib.replaceK_hit pct new 0 l (Lib.index l pct).toNat (by omega)
    exact hk
theorem rep1_len (l : List UInt8) : (Lib.replace l pct [] 1).length ≤ l.length := by
  rw [rep1 l [] rfl]
  split
  · exact Nat.le_refl _
  · rw [List.append_nil, List.length_append, List.length_take, List.length_drop]; omega
def fmtB (s : ByteArray) : Bool := decide (1 ≤ s.size ∧ s.size ≤ 12) && allLet (Lib.replace s.data.toList pct [] 1)
/-- an era's bounds, but for its end -/
def ebnd (x : Er) (n : Int) : Bool := decide (-50400 ≤ x.std ∧ x.std ≤ 50400 ∧ -1 ≤ x.set ∧ x.set < n ∧ 0 ≤ x.sv ∧ (0 ≤ x.set ∧ x.sv ≤ 0 ∨ x.set < 0 ∧ x.sv ≤ 7200))
end Go.Proofs.Ytainhpnmgligjaf

/- The contract of refuseFormats: a loop over zones, in it a loop over eras.Spans whose rounds may panic. -/
import Derived.Test.YtainhpnmgligjafDataC
import Derived.Test.YtainhpnmgligjafSpansB
namespace Go.Proofs.Ytainhpnmgligjaf
open Go Go.RowKit Go.Shelf
set_option linter.unusedVariables false
attribute [local go_sem] Oper.semAt_some

/-- all formats are formats -/
abbrev fmts (D : Dt) : Prop := ∀ j, j < D.nz → ∀ i, i < (D.zs j).n → fmtB ((D.zs j).es i).fm = true
theorem left_p {p : Prop} [Decidable p] (h : ¬ p) {e : Int} (he : e ≠ 0) : left (if p then 0 else e) = .panicked [{ v := errV e, recovered := false }] := by rw [if_neg h, left_no he]
theorem left_q {p : Prop} [Decidable p] (h : p) (e : Int) : left (if p then 0 else e) = .returned (.tuple #[]) := by rw [if_pos h]; rfl
theorem Mx.mono {w w' : World} {B : Nat} (h : Mx w) (hB : 0 < B) (hb : Below B w w') : Mx w' := by
  obtain ⟨m, hm⟩ := h
  exact ⟨m, (hb.cell (p := ⟨0, 0, none⟩) hB).trans hm⟩

/-- between two zones -/
def FI (D : Dt) (w : World) (a : Act) (wr : World) : Prop := ∃ (j : Nat) (ds : List Deferred) (u3 u5 u9 u10 u11 u12 u13 u14 u15 u16 u17 u18 u19 u20 u21 u22 : Value), j ≤ D.nz ∧
    a = { tmps := #[.slice D.za D.nz D.zc, undef, undef, u3, undef, u5, .slice D.za D.nz D.zc, .int .i64 D.nz, .int .i64 j, u9, u10, u11, u12, u13, u14, u15, u16, u17, u18, u19, u20, u21, u22], defers := ds } ∧
    Hid (Below w.heap.size w wr) ∧ Hid (Marks w.heap.size wr.heap.size ds wr) ∧ Hid (∀ i, i < j → ∀ k, k < (D.zs i).n → fmtB ((D.zs i).es k).fm = true)
def FM (D : Dt) (a : Act) (_ : World) : Nat := D.nz - (intOf (a.tmps.getD 8 undef)).toNat

end Go.Proofs.Ytainhpnmgligjaf

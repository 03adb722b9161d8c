/- What the first of the tied tables gives the walks: the months' days lie in block 0. -/
import Derived.Test.YtbpdbggojgijiaaGreatDoorRows
import Derived.Test.YtbpdbggojgijiaaGreatDoorMathAll
import Derived.ProofKit
import Derived.LaidMore
import Derived.OpenShut
import Derived.Stop.Joined
namespace Go.Proofs.YtbpdbggojgijiaaGreatDoor
open Go Go.ChangeShapes Go.WideShapes Go.ChangeAt Go.WideMaps Go.WideElems Go.RowKit

theorem own : ownKnob Tryz.prog.godebug = none := by kernel_rfl
theorem gMonths : Tryz.prog.globalNamed "gnomon/days.monthDays" = some 4 := by kernel_rfl
theorem tMonths : (Tryz.prog.globals[4]?).map (·.type) = some 170 := by kernel_rfl
set_option maxRecDepth 100000 in
theorem laid_head {W : World} {rest : List (String × DataW Unit)} (h : laidMet Tryz.prog (("gnomon/days.monthDays", Rows.laid_gnomon_days_monthDays) :: rest) W) : Laid W := by
  obtain ⟨ps, ⟨g0, t0, cs0, f0, p0, q0, hg0, ht0, hv0, hd0, _, _⟩, _, _⟩ := h
  obtain rfl := Option.some.inj (gMonths.symm.trans hg0)
  obtain rfl := Option.some.inj (tMonths.symm.trans ht0)
  obtain ⟨xs, m1, rfl, hx1, hlen, hn, hel⟩ := DataW.trod_array Tryz.underlying170 hd0
  have c3 : Tryz.prog.cellsOf 3 = 1 := by kernel_rfl
  simp only [Prod.mk.injEq, Rows.laid_gnomon_days_monthDays, DataW.agg.injEq] at hx1
  intro i hi
  have hE := hel i hi
  have hget : (xs.map (·.1))[i]? = some (.lit (.int .i64 (tab i))) := by
    rw [← hx1.1]
    match i, hi with
    | 0, _ => rfl
    | 1, _ => rfl
    | 2, _ => rfl
    | 3, _ => rfl
    | 4, _ => rfl
    | 5, _ => rfl
    | 6, _ => rfl
    | 7, _ => rfl
    | 8, _ => rfl
    | 9, _ => rfl
    | 10, _ => rfl
    | 11, _ => rfl
  rw [List.getElem?_map] at hget
  cases hy : xs[i]? with
  | none => simp [hy] at hget
  | some x =>
    rw [hy] at hE hget
    simp only [Option.map_some, Option.some.injEq] at hget
    obtain ⟨k, e1, e2, _⟩ := DataW.trod_int Tryz.underlying3 hE
    have hk : k = tab i := by rw [e2] at hget; simpa using hget
    subst hk
    have := World.var?_cell hg0 hv0 i
    rw [c3, Nat.mul_one] at e1
    rw [this]
    obtain ⟨l1⟩ := cs0
    have h2 : l1[i]? = (l1.drop i)[0]? := by simp
    simp only [List.getElem?_toArray]
    rw [h2]
    cases hq : l1.drop i with
    | nil => simp [hq] at e1
    | cons c r => simp [hq] at e1; subst e1; rfl
end Go.Proofs.YtbpdbggojgijiaaGreatDoor

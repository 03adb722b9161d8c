/- In an era without a set the same holds at each of its times. -/
import Derived.Test.YtdffopkljomipaaGreatDoorOffCAll
namespace Go.Proofs.YtdffopkljomipaaGreatDoor
open Go Go.RowKit Go.Maps
set_option linter.unusedVariables false

theorem cells2 {w : World} {b : Nat} {x y : Value} {t : TypeId} (h : w.heap[b]? = some (.cells #[x, y] t)) : w.cell? ⟨b, 0, none⟩ = some x ∧ w.cell? ⟨b, 1, none⟩ = some y := by constructor <;> simp [World.cell?, h]
theorem un_le {es : Nat → Er} {n : Nat} (h : ∀ i, i < n → frm es i < (es i).un) : ∀ k, k ≤ n → ∀ i, i < k → (es i).un ≤ frm es k
  | 0, _, i, hi => absurd hi (Nat.not_lt_zero _)
  | k + 1, hk, i, hi => by
    show (es i).un ≤ (es k).un
    rcases Nat.lt_or_ge i k with hl | hg
    · have h1 := un_le h k (by omega) i hl
      have h2 := h k (by omega)
      omega
    · obtain rfl : i = k := by omega
      omega
theorem frm_nn {es : Nat → Er} {n : Nat} (h : ∀ i, i < n → frm es i < (es i).un) : ∀ k, k ≤ n → 0 ≤ frm es k
  | 0, _ => Int.le_refl _
  | k + 1, hk => by
    have h1 := frm_nn h k (by omega)
    have h2 := h k (by omega)
    show 0 ≤ (es k).un
    omega
/-- what holds in an era without a set -/
def bareR (x : Er) : Of := ⟨x.std + x.sv, x.sv, ⟨(Lib.replace x.fm.data.toList pct (ByteArray.mk #[]).data.toList 1).toArray⟩⟩
theorem bare_at {D : Dt} (hc : chkE D = 0) {j k : Nat} (hj : j < D.nz) (hk : k < (D.zs j).n) {T : Int} (hset : ((D.zs j).es k).set < 0) (h1 : frm (D.zs j).es k ≤ T) (h2 : T < ((D.zs j).es k).un) :
    atsE D (D.zs j).nm T = 0 ∧ atsR D (D.zs j).nm T = bareR ((D.zs j).es k) := by
  have hz := (chk_all hc).2.2.1 j hj
  have ha := fun i hi => (hz.1 i hi).2
  have hu := un_le ha
  have hn := frm_nn ha k (by omega)
  have he := hu (D.zs j).n (Nat.le_refl _) k hk
  rw [hz.2] at he
  obtain ⟨e1, e2⟩ := ats_zone (D := D) (k := j) (t := T) hc hj (by omega) (by omega)
  refine ⟨e1, e2.trans ?_⟩
  have hI : eraI (D.zs j).es (D.zs j).n T = k := eraI_at hk h2 (fun i hi => by have := hu k (by omega) i hi; omega)
  have hX : offX D j T = (D.zs j).es k := by unfold offX; rw [hI]
  have hS : offS D j T = ((D.zs j).es k).sv := by unfold offS; rw [hX, if_neg (by omega)]
  have hL : offL D j T = ⟨#[]⟩ := by unfold offL; rw [hX, if_neg (by omega)]
  unfold offR bareR offA
  rw [hX, hS, hL]
end Go.Proofs.YtdffopkljomipaaGreatDoor

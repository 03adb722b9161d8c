/- How a list of uses that is handed in lies in memory. -/
import Derived.Test.YtainhpnmgligjaeGreatDoorDataOpen
import Derived.Test.YtainhpnmgligjaeGreatDoorUsesAAll
import Derived.Carry
import Derived.SizedLaws
namespace Go.Proofs.YtainhpnmgligjaeGreatDoor
open Go Go.ChangeShapes Go.WideShapes Go.ChangeAt Go.RowKit Go.Deep
set_option maxRecDepth 100000
set_option linter.unusedVariables false

theorem add_plainU (b off k : Nat) : (⟨b, off, none⟩ : Addr).add k = ⟨b, off + k, none⟩ := by
  unfold Addr.add
  split
  · rename_i h; rw [h]; rfl
  · rfl
theorem slice_ofU {H : Type} {enc : TypeId × Value → H} {w : World} {sp : Nat → Bool} {hd : Bool} {fuel : Nat} {cs : List Value} {y : DataW H × List MemPlace} {t e : TypeId} {k : Nat}
    (ht : Tryz.prog.underlying t = some (.slice e)) (hk : Tryz.prog.cellsOf e = k) (hk0 : 0 < k) (h : DataW.trod enc Tryz.prog w 0 sp hd fuel t cs = some y) :
    ∃ (a : Option Addr) (n cap : Nat), cs = [.slice a n cap] ∧ n ≤ maxLen ∧ n ≤ cap ∧ (n = 0 ∨ ∃ b off, a = some ⟨b, off, none⟩ ∧ ∃ m : Nat, ∀ j, j < n → ∃ (cs' : List Value) (y' : DataW H × List MemPlace), cs'.length = k ∧ (∀ i, i < k → w.cell? ⟨b, off + j * k + i, none⟩ = cs'[i]?) ∧ DataW.trod enc Tryz.prog w 0 sp hd m e cs' = some y') := by
  rcases open_slice ht h with ⟨hcs, _⟩ | ⟨x, len, cap, m, n, D, Pl, hcs, _, hl, hm, hmm, _, hx⟩
  · exact ⟨none, 0, 0, hcs, Nat.zero_le _, Nat.le_refl _, .inl rfl⟩
  · refine ⟨some x, len, cap, hcs, by omega, hl, ?_⟩
    have hlm : len ≤ m := by rw [hmm]; split <;> omega
    rw [hk] at hx
    by_cases h0 : len = 0
    · exact .inl h0
    · right
      obtain ⟨b, off, spot⟩ := x
      have hspot : spot = none := by
        obtain ⟨cs', hc, _⟩ := hx 0 (by omega)
        obtain ⟨_, hlen, hcell⟩ := World.cells?_some hc
        have h1 := hcell 0 hk0
        rw [List.getElem?_eq_getElem (by omega)] at h1
        have h2 : w.cell? ⟨b, off, spot⟩ = some cs'[0] := by simpa [Addr.add] using h1
        exact World.cell?_spot h2
      subst hspot
      refine ⟨b, off, rfl, n, fun j hj => ?_⟩
      obtain ⟨cs', hc, ht⟩ := hx j (by omega)
      obtain ⟨_, hlen, hcell⟩ := World.cells?_some hc
      refine ⟨cs', _, hlen, fun i hi => ?_, ht⟩
      have := hcell i hi
      rwa [add_plainU, add_plainU] at this
theorem cellsUse : Tryz.prog.cellsOf 43 = 4 := by kernel_rfl
theorem cellsStrU : Tryz.prog.cellsOf 9 = 1 := by kernel_rfl
theorem cellsIntU : Tryz.prog.cellsOf 3 = 1 := by kernel_rfl
variable {H : Type} {enc : TypeId × Value → H} {w : World} {sp : Nat → Bool} {hd : Bool}
theorem use_of {fuel : Nat} {cs : List Value} {y : DataW H × List MemPlace} (h : DataW.trod enc Tryz.prog w 0 sp hd fuel 43 cs = some y) : ∃ x : Us, cs = [.string x.zn, .int .i64 x.fr, .int .i64 x.to, .string x.mt] ∧ x.fits := by
  obtain ⟨xs, n, _, _, hl, hn, hf⟩ := DataW.trod_struct Tryz.underlying43 h
  rw [cellsUse] at hl
  match cs, hl with
  | [c0, c1, c2, c3], _ =>
    have f0 : DataW.trod enc Tryz.prog w 0 sp hd n 9 [c0] = xs[0]? := by simpa [cellsStrU] using hf 0 _ rfl
    have f1 : DataW.trod enc Tryz.prog w 0 sp hd n 3 [c1] = xs[1]? := by simpa [cellsIntU] using hf 1 _ rfl
    have f2 : DataW.trod enc Tryz.prog w 0 sp hd n 3 [c2] = xs[2]? := by simpa [cellsIntU] using hf 2 _ rfl
    have f3 : DataW.trod enc Tryz.prog w 0 sp hd n 9 [c3] = xs[3]? := by simpa [cellsStrU] using hf 3 _ rfl
    have hx : ∀ i, i < 4 → ∃ x, xs[i]? = some x := fun i hi => ⟨xs[i]'(by rw [hn]; exact hi), List.getElem?_eq_getElem (by rw [hn]; exact hi)⟩
    obtain ⟨x0, e0⟩ := hx 0 (by omega)
    obtain ⟨x1, e1⟩ := hx 1 (by omega)
    obtain ⟨x2, e2⟩ := hx 2 (by omega)
    obtain ⟨x3, e3⟩ := hx 3 (by omega)
    rw [e0] at f0; rw [e1] at f1; rw [e2] at f2; rw [e3] at f3
    obtain ⟨s, g0, _, hs⟩ := DataW.trod_string Tryz.underlying9 f0
    obtain ⟨p, g1, _, hp⟩ := DataW.trod_int Tryz.underlying3 f1
    obtain ⟨q, g2, _, hq⟩ := DataW.trod_int Tryz.underlying3 f2
    obtain ⟨u, g3, _, hu⟩ := DataW.trod_string Tryz.underlying9 f3
    simp at g0 g1 g2 g3
    exact ⟨⟨s, p, q, u⟩, by simp [g0, g1, g2, g3], ⟨hs, hu, bounds_i64 hp, bounds_i64 hq⟩⟩
/-- uses that are handed in -/
theorem open_uses {r0 : Reach} {b0 : Nat} {v : Value} {d : DataW H} {p : List MemPlace}
    (hv : Value.okWide Tryz.prog w r0 b0 27 v) (h : DataW.Trod enc Tryz.prog w 0 sp hd 27 v d p) : ∃ (a : Option Addr) (n c : Nat) (us : Nat → Us), v = .slice a n c ∧ n ≤ maxLen ∧ n ≤ c ∧ UAt w a n us ∧ ∀ j, j < n → (us j).fits := by
  obtain ⟨a', n', c', rfl⟩ := okWide_slice Tryz.underlying27 hv
  obtain ⟨fuel, hf⟩ := h
  obtain ⟨a, m, cap, g2, hm, hc, hr⟩ := slice_ofU Tryz.underlying27 cellsUse (by omega) hf
  have e : Value.slice a' n' c' = .slice a m cap := by simpa [Value.cells] using g2
  rcases hr with rfl | ⟨b, off, rfl, k, hj⟩
  · exact ⟨a, 0, cap, fun _ => ⟨⟨#[]⟩, 0, 0, ⟨#[]⟩⟩, e, hm, hc, .inl rfl, fun j hj => absurd hj (Nat.not_lt_zero _)⟩
  · haveI : Inhabited Us := ⟨⟨⟨#[]⟩, 0, 0, ⟨#[]⟩⟩⟩
    obtain ⟨xs, hxs⟩ := choose_lt (α := Us) (n := m) (p := fun j x => (w.cell? ⟨b, off + j * 4, none⟩ = some (.string x.zn) ∧ w.cell? ⟨b, off + j * 4 + 1, none⟩ = some (.int .i64 x.fr) ∧ w.cell? ⟨b, off + j * 4 + 2, none⟩ = some (.int .i64 x.to) ∧ w.cell? ⟨b, off + j * 4 + 3, none⟩ = some (.string x.mt)) ∧ x.fits) (fun j hlt => by
      obtain ⟨cs', y', hlen, hcell, ht⟩ := hj j hlt
      obtain ⟨x, rfl, hx⟩ := use_of ht
      exact ⟨x, ⟨by simpa using hcell 0 (by omega), by simpa using hcell 1 (by omega), by simpa using hcell 2 (by omega), by simpa using hcell 3 (by omega)⟩, hx⟩)
    exact ⟨_, m, cap, xs, e, hm, hc, .inr ⟨b, off, rfl, fun j hlt => (hxs j hlt).1⟩, fun j hlt => (hxs j hlt).2⟩
end Go.Proofs.YtainhpnmgligjaeGreatDoor

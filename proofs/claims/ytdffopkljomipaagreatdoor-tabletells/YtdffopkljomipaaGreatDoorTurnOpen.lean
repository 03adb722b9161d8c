/- How a list of turns that is handed in lies in memory. -/
import Derived.Test.YtdffopkljomipaaGreatDoorOpenAll
import Derived.Test.YtdffopkljomipaaGreatDoorTableA
import Derived.Carry
import Derived.SizedLaws
namespace Go.Proofs.YtdffopkljomipaaGreatDoor
open Go Go.ChangeShapes Go.WideShapes Go.ChangeAt Go.RowKit Go.Deep
set_option maxRecDepth 100000
set_option linter.unusedVariables false
set_option linter.unnecessarySimpa false

theorem add_plainT (b off k : Nat) : (⟨b, off, none⟩ : Addr).add k = ⟨b, off + k, none⟩ := by
  unfold Addr.add
  split
  · rename_i h; rw [h]; rfl
  · rfl
theorem slice_ofT {H : Type} {enc : TypeId × Value → H} {w : World} {sp : Nat → Bool} {hd : Bool} {fuel : Nat} {cs : List Value} {y : DataW H × List MemPlace} {t e : TypeId} {k : Nat}
    (ht : Tryz.prog.underlying t = some (.slice e)) (hk : Tryz.prog.cellsOf e = k) (hk0 : 0 < k) (h : DataW.trod enc Tryz.prog w 0 sp hd fuel t cs = some y) :
    ∃ (a : Option Addr) (n cap : Nat), cs = [.slice a n cap] ∧ n ≤ maxLen ∧ n ≤ cap ∧ (n = 0 ∨ ∃ b off, a = some ⟨b, off, none⟩ ∧ ∃ m : Nat, ∀ j, j < n → ∃ (cs' : List Value) (y' : DataW H × List MemPlace), cs'.length = k ∧ (∀ i, i < k → w.cell? ⟨b, off + j * k + i, none⟩ = cs'[i]?) ∧ DataW.trod enc Tryz.prog w 0 sp hd m e cs' = some y') := by
  rcases open_slice ht h with ⟨hcs, _⟩ | ⟨x, len, cap, m, n, D, Pl, hcs, _, hl, hm, hmm, _, hx⟩
  · exact ⟨none, 0, 0, hcs, Nat.zero_le _, Nat.le_refl _, .inl rfl⟩
  · refine ⟨some x, len, cap, hcs, by omega, hl, ?_⟩
    have hlm : len ≤ m := by rw [hmm]; split <;> omega
    rw [hk] at hx
    by_cases h0 : len = 0
    · exact .inl h0
    · right
      obtain ⟨b, off, spot⟩ := x
      have hspot : spot = none := by
        obtain ⟨cs', hc, _⟩ := hx 0 (by omega)
        obtain ⟨_, hlen, hcell⟩ := World.cells?_some hc
        have h1 := hcell 0 hk0
        rw [List.getElem?_eq_getElem (by omega)] at h1
        have h2 : w.cell? ⟨b, off, spot⟩ = some cs'[0] := by simpa [Addr.add] using h1
        exact World.cell?_spot h2
      subst hspot
      refine ⟨b, off, rfl, n, fun j hj => ?_⟩
      obtain ⟨cs', hc, ht⟩ := hx j (by omega)
      obtain ⟨_, hlen, hcell⟩ := World.cells?_some hc
      refine ⟨cs', _, hlen, fun i hi => ?_, ht⟩
      have := hcell i hi
      rwa [add_plainT, add_plainT] at this
theorem cellsTurn : Tryz.prog.cellsOf 41 = 4 := by kernel_rfl
theorem cellsOffT : Tryz.prog.cellsOf 32 = 3 := by kernel_rfl
theorem cellsStrT : Tryz.prog.cellsOf 9 = 1 := by kernel_rfl
theorem cellsIntT : Tryz.prog.cellsOf 3 = 1 := by kernel_rfl
variable {H : Type} {enc : TypeId × Value → H} {w : World} {sp : Nat → Bool} {hd : Bool}
theorem offT_of {fuel : Nat} {cs : List Value} {y : DataW H × List MemPlace} (h : DataW.trod enc Tryz.prog w 0 sp hd fuel 32 cs = some y) : ∃ (p q : Int) (s : ByteArray), cs = [.int .i64 p, .int .i64 q, .string s] := by
  obtain ⟨xs, n, _, _, hl, hn, hf⟩ := DataW.trod_struct Tryz.underlying32 h
  rw [cellsOffT] at hl
  match cs, hl with
  | [c0, c1, c2], _ =>
    have f0 : DataW.trod enc Tryz.prog w 0 sp hd n 3 [c0] = xs[0]? := by simpa [cellsIntT] using hf 0 _ rfl
    have f1 : DataW.trod enc Tryz.prog w 0 sp hd n 3 [c1] = xs[1]? := by simpa [cellsIntT] using hf 1 _ rfl
    have f2 : DataW.trod enc Tryz.prog w 0 sp hd n 9 [c2] = xs[2]? := by simpa [cellsStrT] using hf 2 _ rfl
    have hx : ∀ i, i < 3 → ∃ x, xs[i]? = some x := fun i hi => ⟨xs[i]'(by rw [hn]; exact hi), List.getElem?_eq_getElem (by rw [hn]; exact hi)⟩
    obtain ⟨x0, e0⟩ := hx 0 (by omega)
    obtain ⟨x1, e1⟩ := hx 1 (by omega)
    obtain ⟨x2, e2⟩ := hx 2 (by omega)
    rw [e0] at f0; rw [e1] at f1; rw [e2] at f2
    obtain ⟨p, g0, _, hp⟩ := DataW.trod_int Tryz.underlying3 f0
    obtain ⟨q, g1, _, hq⟩ := DataW.trod_int Tryz.underlying3 f1
    obtain ⟨s, g2, _, hs⟩ := DataW.trod_string Tryz.underlying9 f2
    simp at g0 g1 g2
    exact ⟨p, q, s, by simp [g0, g1, g2]⟩
theorem turn_of {fuel : Nat} {cs : List Value} {y : DataW H × List MemPlace} (h : DataW.trod enc Tryz.prog w 0 sp hd fuel 41 cs = some y) : ∃ x : Tu, cs = [.int .i64 x.at_, .int .i64 x.tt, .int .i64 x.sv, .string x.ab] := by
  obtain ⟨xs, n, _, _, hl, hn, hf⟩ := DataW.trod_struct Tryz.underlying41 h
  rw [cellsTurn] at hl
  match cs, hl with
  | [c0, c1, c2, c3], _ =>
    have f0 : DataW.trod enc Tryz.prog w 0 sp hd n 3 [c0] = xs[0]? := by simpa [cellsIntT] using hf 0 _ rfl
    have f1 : DataW.trod enc Tryz.prog w 0 sp hd n 32 [c1, c2, c3] = xs[1]? := by simpa [cellsIntT, cellsOffT] using hf 1 _ rfl
    have hx : ∀ i, i < 2 → ∃ x, xs[i]? = some x := fun i hi => ⟨xs[i]'(by rw [hn]; exact hi), List.getElem?_eq_getElem (by rw [hn]; exact hi)⟩
    obtain ⟨x0, e0⟩ := hx 0 (by omega)
    obtain ⟨x1, e1⟩ := hx 1 (by omega)
    rw [e0] at f0; rw [e1] at f1
    obtain ⟨p, g0, _, hp⟩ := DataW.trod_int Tryz.underlying3 f0
    obtain ⟨q, r, s, g1⟩ := offT_of f1
    simp at g0 g1
    exact ⟨⟨p, q, r, s⟩, by simp [g0, g1]⟩
/-- turns that are handed in -/
theorem open_turns {r0 : Reach} {b0 : Nat} {v : Value} {d : DataW H} {p : List MemPlace}
    (hv : Value.okWide Tryz.prog w r0 b0 27 v) (h : DataW.Trod enc Tryz.prog w 0 sp hd 27 v d p) : ∃ (a : Option Addr) (n c : Nat) (ts : Nat → Tu), v = .slice a n c ∧ n ≤ maxLen ∧ TuAt w a n ts := by
  obtain ⟨a', n', c', rfl⟩ := okWide_slice Tryz.underlying27 hv
  obtain ⟨fuel, hf⟩ := h
  obtain ⟨a, m, cap, g2, hm, hc, hr⟩ := slice_ofT Tryz.underlying27 cellsTurn (by omega) hf
  have e : Value.slice a' n' c' = .slice a m cap := by simpa [Value.cells] using g2
  rcases hr with rfl | ⟨b, off, rfl, k, hj⟩
  · exact ⟨a, 0, cap, fun _ => ⟨0, 0, 0, ⟨#[]⟩⟩, e, hm, .inl rfl⟩
  · haveI : Inhabited Tu := ⟨⟨0, 0, 0, ⟨#[]⟩⟩⟩
    obtain ⟨xs, hxs⟩ := choose_lt (α := Tu) (n := m) (p := fun j x => (w.cell? ⟨b, off + j * 4, none⟩ = some (.int .i64 x.at_) ∧ w.cell? ⟨b, off + j * 4 + 1, none⟩ = some (.int .i64 x.tt) ∧ w.cell? ⟨b, off + j * 4 + 2, none⟩ = some (.int .i64 x.sv) ∧ w.cell? ⟨b, off + j * 4 + 3, none⟩ = some (.string x.ab))) (fun j hlt => by
      obtain ⟨cs', y', hlen, hcell, ht⟩ := hj j hlt
      obtain ⟨x, rfl⟩ := turn_of ht
      exact ⟨x, by simpa using hcell 0 (by omega), by simpa using hcell 1 (by omega), by simpa using hcell 2 (by omega), by simpa using hcell 3 (by omega)⟩)
    exact ⟨_, m, cap, xs, e, hm, .inr ⟨b, off, rfl, hxs⟩⟩
end Go.Proofs.YtdffopkljomipaaGreatDoor

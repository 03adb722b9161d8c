/- How a list of books that is handed in lies in memory. -/
import Derived.Test.YtainhpnmgligjafRows
import Derived.Test.YtainhpnmgligjafBooksA
import Derived.ProofKit
import Derived.LaidMore
import Derived.OpenShut
import Derived.Stop.Joined
import Derived.Deep.Slices
import Derived.Deep.Strs
import Derived.Carry
import Derived.SizedLaws
namespace Go.Proofs.Ytainhpnmgligjaf
open Go Go.ChangeShapes Go.WideShapes Go.ChangeAt Go.RowKit Go.Deep
set_option maxRecDepth 100000
set_option linter.unusedVariables false

theorem own : ownKnob Try.prog.godebug = none := by kernel_rfl
theorem laidOut : laidOutB Try.prog = true := by kernel_rfl
theorem add_plainB (b off k : Nat) : (⟨b, off, none⟩ : Addr).add k = ⟨b, off + k, none⟩ := by
  unfold Addr.add
  split
  · rename_i h; rw [h]; rfl
  · rfl
theorem slice_of {H : Type} {enc : TypeId × Value → H} {w : World} {sp : Nat → Bool} {hd : Bool} {fuel : Nat} {cs : List Value} {y : DataW H × List MemPlace} {t e : TypeId} {k : Nat}
    (ht : Try.prog.underlying t = some (.slice e)) (hk : Try.prog.cellsOf e = k) (hk0 : 0 < k) (h : DataW.trod enc Try.prog w 0 sp hd fuel t cs = some y) :
    ∃ (a : Option Addr) (n cap : Nat), cs = [.slice a n cap] ∧ n ≤ maxLen ∧ n ≤ cap ∧ (n = 0 ∨ ∃ b off, a = some ⟨b, off, none⟩ ∧ ∃ m : Nat, ∀ j, j < n → ∃ (cs' : List Value) (y' : DataW H × List MemPlace), cs'.length = k ∧ (∀ i, i < k → w.cell? ⟨b, off + j * k + i, none⟩ = cs'[i]?) ∧ DataW.trod enc Try.prog w 0 sp hd m e cs' = some y') := by
  rcases open_slice ht h with ⟨hcs, _⟩ | ⟨x, len, cap, m, n, D, Pl, hcs, _, hl, hm, hmm, _, hx⟩
  · exact ⟨none, 0, 0, hcs, Nat.zero_le _, Nat.le_refl _, .inl rfl⟩
  · refine ⟨some x, len, cap, hcs, by omega, hl, ?_⟩
    have hlm : len ≤ m := by rw [hmm]; split <;> omega
    rw [hk] at hx
    by_cases h0 : len = 0
    · exact .inl h0
    · right
      obtain ⟨b, off, spot⟩ := x
      have hspot : spot = none := by
        obtain ⟨cs', hc, _⟩ := hx 0 (by omega)
        obtain ⟨_, hlen, hcell⟩ := World.cells?_some hc
        have h1 := hcell 0 hk0
        rw [List.getElem?_eq_getElem (by omega)] at h1
        have h2 : w.cell? ⟨b, off, spot⟩ = some cs'[0] := by simpa [Addr.add] using h1
        exact World.cell?_spot h2
      subst hspot
      refine ⟨b, off, rfl, n, fun j hj => ?_⟩
      obtain ⟨cs', hc, ht⟩ := hx j (by omega)
      obtain ⟨_, hlen, hcell⟩ := World.cells?_some hc
      refine ⟨cs', _, hlen, fun i hi => ?_, ht⟩
      have := hcell i hi
      rwa [add_plainB, add_plainB] at this
theorem cellsPair : Try.prog.cellsOf 34 = 2 := by kernel_rfl
theorem cellsBook : Try.prog.cellsOf 31 = 3 := by kernel_rfl
theorem cellsPairs : Try.prog.cellsOf 29 = 1 := by kernel_rfl
theorem cellsStrB : Try.prog.cellsOf 9 = 1 := by kernel_rfl
theorem cellsIntB : Try.prog.cellsOf 3 = 1 := by kernel_rfl
variable {H : Type} {enc : TypeId × Value → H} {w : World} {sp : Nat → Bool} {hd : Bool}
theorem pair_of {fuel : Nat} {cs : List Value} {y : DataW H × List MemPlace} (h : DataW.trod enc Try.prog w 0 sp hd fuel 34 cs = some y) : ∃ x : ByteArray × ByteArray, cs = [.string x.1, .string x.2] ∧ x.1.size ≤ maxLen ∧ x.2.size ≤ maxLen := by
  obtain ⟨y0, y1, n, _, hl, f0, f1⟩ := trod_struct2 Try.underlying34 h
  rw [cellsPair] at hl
  match cs, hl with
  | [c0, c1], _ =>
    have f0' : DataW.trod enc Try.prog w 0 sp hd n 9 [c0] = some y0 := by simpa [cellsStrB] using f0
    have f1' : DataW.trod enc Try.prog w 0 sp hd n 9 [c1] = some y1 := by simpa [cellsStrB] using f1
    obtain ⟨s, g0, _, hs⟩ := DataW.trod_string Try.underlying9 f0'
    obtain ⟨t, g1, _, ht⟩ := DataW.trod_string Try.underlying9 f1'
    simp at g0 g1
    exact ⟨(s, t), by simp [g0, g1], hs, ht⟩
theorem book_of {fuel : Nat} {cs : List Value} {y : DataW H × List MemPlace} (h : DataW.trod enc Try.prog w 0 sp hd fuel 31 cs = some y) : ∃ x : Bk, cs = [.string x.lc, .int .i64 x.pa, x.sl] ∧ x.row w ∧ x.fits := by
  obtain ⟨y0, y1, y2, n, _, hl, f0, f1, f2⟩ := trod_struct3 Try.underlying31 h
  rw [cellsBook] at hl
  match cs, hl with
  | [c0, c1, c2], _ =>
    have f0' : DataW.trod enc Try.prog w 0 sp hd n 9 [c0] = some y0 := by simpa [cellsStrB] using f0
    have f1' : DataW.trod enc Try.prog w 0 sp hd n 3 [c1] = some y1 := by simpa [cellsIntB] using f1
    have f2' : DataW.trod enc Try.prog w 0 sp hd n 29 [c2] = some y2 := by simpa [cellsPairs] using f2
    obtain ⟨s, g0, _, hs⟩ := DataW.trod_string Try.underlying9 f0'
    obtain ⟨p, g1, _, hp⟩ := DataW.trod_int Try.underlying3 f1'
    obtain ⟨a, m, cap, g2, hm, _, hr⟩ := slice_of Try.underlying29 cellsPair (by omega) f2'
    simp at g0 g1 g2
    have hpb := bounds_i64 hp
    rcases hr with rfl | ⟨b, off, rfl, k, hj⟩
    · exact ⟨⟨s, p, a, 0, cap, fun _ => ⟨#[]⟩, fun _ => ⟨#[]⟩⟩, by simp [g0, g1, g2], .inl rfl, ⟨hs, hm, fun i hi => absurd hi (Nat.not_lt_zero _), fun i hi => absurd hi (Nat.not_lt_zero _), hpb⟩⟩
    · obtain ⟨xs, hxs⟩ := choose_lt (α := ByteArray × ByteArray) (n := m) (p := fun j x => (w.cell? ⟨b, off + j * 2, none⟩ = some (.string x.1) ∧ w.cell? ⟨b, off + j * 2 + 1, none⟩ = some (.string x.2)) ∧ x.1.size ≤ maxLen ∧ x.2.size ≤ maxLen) (fun j hlt => by
        obtain ⟨cs', y', hlen, hcell, ht⟩ := hj j hlt
        obtain ⟨x, rfl, hx⟩ := pair_of ht
        exact ⟨x, ⟨by simpa using hcell 0 (by omega), by simpa using hcell 1 (by omega)⟩, hx⟩)
      exact ⟨⟨s, p, some ⟨b, off, none⟩, m, cap, fun i => (xs i).1, fun i => (xs i).2⟩, by simp [g0, g1, g2], .inr ⟨b, off, rfl, fun j hlt => (hxs j hlt).1⟩, ⟨hs, hm, fun i hi => (hxs i hi).2.1, fun i hi => (hxs i hi).2.2, hpb⟩⟩
/-- books that are handed in -/
theorem open_books {r0 : Reach} {b0 : Nat} {v : Value} {d : DataW H} {p : List MemPlace}
    (hv : Value.okWide Try.prog w r0 b0 22 v) (h : DataW.Trod enc Try.prog w 0 sp hd 22 v d p) : ∃ (a : Option Addr) (n c : Nat) (bs : Nat → Bk), v = .slice a n c ∧ n ≤ maxLen ∧ n ≤ c ∧ BAt w a n bs ∧ ∀ j, j < n → (bs j).fits := by
  obtain ⟨a', n', c', rfl⟩ := okWide_slice Try.underlying22 hv
  obtain ⟨fuel, hf⟩ := h
  obtain ⟨a, m, cap, g2, hm, hc, hr⟩ := slice_of Try.underlying22 cellsBook (by omega) hf
  have e : Value.slice a' n' c' = .slice a m cap := by simpa [Value.cells] using g2
  rcases hr with rfl | ⟨b, off, rfl, k, hj⟩
  · exact ⟨a, 0, cap, fun _ => ⟨⟨#[]⟩, 0, none, 0, 0, fun _ => ⟨#[]⟩, fun _ => ⟨#[]⟩⟩, e, hm, hc, ⟨.inl rfl, fun j hj => absurd hj (Nat.not_lt_zero _)⟩, fun j hj => absurd hj (Nat.not_lt_zero _)⟩
  · haveI : Inhabited Bk := ⟨⟨⟨#[]⟩, 0, none, 0, 0, fun _ => ⟨#[]⟩, fun _ => ⟨#[]⟩⟩⟩
    obtain ⟨xs, hxs⟩ := choose_lt (α := Bk) (n := m) (p := fun j x => (w.cell? ⟨b, off + j * 3, none⟩ = some (.string x.lc) ∧ w.cell? ⟨b, off + j * 3 + 1, none⟩ = some (.int .i64 x.pa) ∧ w.cell? ⟨b, off + j * 3 + 2, none⟩ = some x.sl) ∧ x.row w ∧ x.fits) (fun j hlt => by
      obtain ⟨cs', y', hlen, hcell, ht⟩ := hj j hlt
      obtain ⟨x, rfl, hx⟩ := book_of ht
      exact ⟨x, ⟨by simpa using hcell 0 (by omega), by simpa using hcell 1 (by omega), by simpa using hcell 2 (by omega)⟩, hx⟩)
    exact ⟨_, m, cap, xs, e, hm, hc, ⟨.inr ⟨b, off, rfl, fun j hlt => (hxs j hlt).1⟩, fun j hlt => (hxs j hlt).2.1⟩, fun j hlt => (hxs j hlt).2.2⟩
end Go.Proofs.Ytainhpnmgligjaf
